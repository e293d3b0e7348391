package tint

import (
	"fmt"
	"math"
	"math/rand/v2"
	"slices"
	"strings"
	"sync"
	"testing"

	"tint/api"
)

const ten = "a\n1 \"b\nc\"\n/* 2\n\n3 */ 4\n\"\"\n/*\"\n*/5\n"

func load(t *testing.T, grammar string) *Grammar {
	t.Helper()
	g, e, at := Load(grammar)
	if e != api.OK {
		t.Fatalf("P4: Load(%q) = %d, %d", grammar, e, at)
	}
	return g
}

func open(t *testing.T, g *Grammar, text string) *Text {
	t.Helper()
	x, e := g.Open(text)
	if x == nil || e != api.OK {
		t.Fatalf("P5: Open(%.60q) = %v, %d", text, x, e)
	}
	return x
}

// tellLine writes a line out: the stack where it begins, and its spans.
func tellLine(t *testing.T, x *Text, i int) string {
	t.Helper()
	stack, e := x.Stack(i)
	spans, f := x.Line(i)
	if e != api.OK || f != api.OK {
		t.Fatalf("P6: line %d: %d, %d", i, e, f)
	}
	out := strings.Join(stack, " ") + ":"
	for _, s := range spans {
		out += fmt.Sprintf(" %d-%d %s %d %s,", s.From, s.To, s.State, s.Depth, s.Colour)
	}
	return out
}

// tell writes a text out, and all its lines.
func tell(t *testing.T, x *Text) string {
	t.Helper()
	out := x.Read()
	for i := range x.Lines() {
		out += "\n" + tellLine(t, x, i)
	}
	return out
}

// checkLines holds all lines of a text against what they must be.
func checkLines(t *testing.T, x *Text, want ...string) {
	t.Helper()
	if x.Lines() != len(want) {
		t.Fatalf("P5: %q has %d lines, want %d", x.Read(), x.Lines(), len(want))
	}
	for i, w := range want {
		if got := tellLine(t, x, i); got != w {
			t.Errorf("P6: line %d of %q is %q, want %q", i, x.Read(), got, w)
		}
	}
}

func TestLineAndStack(t *testing.T) {
	for _, c := range []struct {
		grammar, text string
		want          []string
	}{
		{code, "a 12 \"x\ny\" 3", []string{"code: 0-2 code 1 , 2-4 code 1 number, 4-5 code 1 , 5-6 code 1 quote, 6-7 text 2 ,", "code text: 0-1 text 2 , 1-2 text 2 quote, 2-3 code 1 , 3-4 code 1 number,"}},
		// An empty text, empty lines, a text that ends with the byte 10.
		{code, "", []string{"code:"}}, {code, "\n", []string{"code:", "code:"}}, {code, "1\n", []string{"code: 0-1 code 1 number,", "code:"}}, {code, "\"\n\n\"", []string{"code: 0-1 code 1 quote,", "code text:", "code text: 0-1 text 2 quote,"}},
		// The least place wins, then the first rule, then the longest match.
		{"state a\ntoken x = bc\ntoken y = ab\n", "abc", []string{"a: 0-2 a 1 y, 2-3 a 1 ,"}}, {"state a\ntoken x = a\ntoken y = ab\n", "ab", []string{"a: 0-1 a 1 x, 1-2 a 1 ,"}}, {"state a\ntoken y = ab\ntoken x = a\n", "ab", []string{"a: 0-2 a 1 y,"}}, {"state a\ntoken x = a|ab|abc\n", "abcd", []string{"a: 0-3 a 1 x, 3-4 a 1 ,"}},
		// A match ahead of the place counts no more, nor does one that reaches ahead of it.
		{"state a\ntoken x = ab\ntoken y = bc\n", "abcbc", []string{"a: 0-2 a 1 x, 2-3 a 1 , 3-5 a 1 y,"}}, {"state a\npush b x = b\nstate b\ntoken y = a\n", "aab aa", []string{"a: 0-2 a 1 , 2-3 a 1 x, 3-4 b 2 , 4-5 b 2 y, 5-6 b 2 y,"}},
		// No line's byte 10 is matched, and no match goes on over it.
		{"state a\ntoken x = .+\n", "ab\nc", []string{"a: 0-2 a 1 x,", "a: 0-1 a 1 x,"}}, {"state a\ntoken x = [^a]+\n", "b\n\nb", []string{"a: 0-1 a 1 x,", "a:", "a: 0-1 a 1 x,"}}, {"state a\ntoken x = ab\n", "a\nb", []string{"a: 0-1 a 1 ,", "a: 0-1 a 1 ,"}},
		// Other bytes are like any.
		{"state a\ntoken x = [^ -~]+\n", "a\r\x00\xff\né", []string{"a: 0-1 a 1 , 1-4 a 1 x,", "a: 0-2 a 1 x,"}},
		// A state without rules is never left.
		{"state a\n", "ab\nc", []string{"a: 0-2 a 1 ,", "a: 0-1 a 1 ,"}}, {"state a\npush b x = <\nstate b\n", "a<\n<", []string{"a: 0-1 a 1 , 1-2 a 1 x,", "a b: 0-1 b 2 ,"}},
		// One state open, and a rule that would close it.
		{"state a\npop x = a\n", "aa\na", []string{"a: 0-1 a 1 x, 1-2 a 1 x,", "a: 0-1 a 1 x,"}}, {"state a\npush b x = <\nstate b\npop y = >\n", "<>>\n<", []string{"a: 0-1 a 1 x, 1-2 b 2 y, 2-3 a 1 ,", "a: 0-1 a 1 x,"}},
		// The state that is opened again is one more; two states that open each other.
		{"state a\npush a x = <\npop y = >\n", "<<>\n>", []string{"a: 0-1 a 1 x, 1-2 a 2 x, 2-3 a 3 y,", "a a: 0-1 a 2 y,"}}, {"state a\npush b x = <\npop y = >\nstate b\npush a z = <\npop y = >\n", "<<\n>\n>", []string{"a: 0-1 a 1 x, 1-2 b 2 z,", "a b a: 0-1 a 3 y,", "a b: 0-1 b 2 y,"}},
	} {
		checkLines(t, open(t, load(t, c.grammar), c.text), c.want...)
	}
}

// With MaxDepth states open a rule that would open one more colours, and opens none; and the first that closes one closes it.
func TestDepth(t *testing.T) {
	g := load(t, "state a\npush b x = <\nstate b\npush b x = <\npush c y = !\npop z = >\nstate c\n")
	checkLines(t, open(t, g, "<<<<<<\n<!<\n>!\n<"),
		"a: 0-1 a 1 x, 1-2 b 2 x, 2-3 b 3 x, 3-4 b 4 x, 4-5 b 5 x, 5-6 b 6 x,",
		"a b b b b b b: 0-1 b 7 x, 1-2 b 8 y, 2-3 b 8 x,",
		"a b b b b b b b: 0-1 b 8 z, 1-2 b 7 y,",
		"a b b b b b b c: 0-1 c 8 ,")
}

func TestOpenLength(t *testing.T) {
	g := load(t, code)
	most := strings.Repeat("a\n", api.MaxText/2)
	x := open(t, g, most)
	if x.Read() != most || x.Lines() != 1+api.MaxText/2 {
		t.Errorf("P5: a text of MaxText bytes: %d bytes, %d lines", len(x.Read()), x.Lines())
	}
	for _, text := range []string{most + "a", most + most} {
		if x, e := g.Open(text); x != nil || e != api.ErrLong {
			t.Errorf("P5: Open of %d bytes: %v, %d", len(text), x, e)
		}
	}
	// The bytes are counted, not what they are.
	if x, e := g.Open(strings.Repeat("é", 1501)); x != nil || e != api.ErrLong {
		t.Errorf("P5: Open of 1501 runes: %v, %d", x, e)
	}
	open(t, g, strings.Repeat("\n", api.MaxText))
}

func TestInsert(t *testing.T) {
	g := load(t, code)
	full := strings.Repeat("x", api.MaxText)
	for i, c := range []struct {
		text string
		at   int
		put  string
		e    api.Errno
		want string
	}{
		{"ab", 0, "c", api.OK, "cab"}, {"ab", 1, "cd", api.OK, "acdb"}, {"ab", 2, "c", api.OK, "abc"}, {"ab", 1, "", api.OK, "ab"}, {"", 0, "c\n", api.OK, "c\n"}, {"", 0, "", api.OK, ""}, {"a\nb", 1, "\n", api.OK, "a\n\nb"}, {"a\nb", 2, "\n", api.OK, "a\n\nb"},
		{"ab", -1, "c", api.ErrRange, "ab"}, {"ab", 3, "c", api.ErrRange, "ab"}, {"ab", -1, "", api.ErrRange, "ab"}, {"ab", 3, "", api.ErrRange, "ab"}, {"", 1, "c", api.ErrRange, ""}, {"ab", math.MaxInt, "c", api.ErrRange, "ab"}, {"ab", math.MinInt, "c", api.ErrRange, "ab"},
		{"", 0, full, api.OK, full}, {"", 0, full + "x", api.ErrLong, ""}, {"ab", 1, full[2:], api.OK, "a" + full[2:] + "b"}, {"ab", 1, full[1:], api.ErrLong, "ab"}, {"ab", 2, full[1:], api.ErrLong, "ab"}, {full, 0, "", api.OK, full}, {full, api.MaxText, "", api.OK, full}, {full, 9, "y", api.ErrLong, full},
		// ErrRange is named first.
		{"ab", 3, full, api.ErrRange, "ab"}, {"ab", -1, full, api.ErrRange, "ab"}, {full, api.MaxText + 1, "y", api.ErrRange, full},
	} {
		x := open(t, g, c.text)
		if e := x.Insert(c.at, c.put); e != c.e || x.Read() != c.want || x.Lines() != 1+strings.Count(c.want, "\n") {
			t.Errorf("P5: case %d: Insert(%d, %.20q) = %d, %.20q with %d lines, want %d, %.20q", i, c.at, c.put, e, x.Read(), x.Lines(), c.e, c.want)
		}
	}
}

func TestDelete(t *testing.T) {
	g := load(t, code)
	for i, c := range []struct {
		text  string
		at, n int
		e     api.Errno
		want  string
	}{
		{"abc", 0, 1, api.OK, "bc"}, {"abc", 1, 1, api.OK, "ac"}, {"abc", 1, 2, api.OK, "a"}, {"abc", 0, 3, api.OK, ""}, {"abc", 0, 0, api.OK, "abc"}, {"abc", 3, 0, api.OK, "abc"}, {"", 0, 0, api.OK, ""}, {"a\nb\nc", 1, 1, api.OK, "ab\nc"}, {"a\nb\nc", 1, 2, api.OK, "a\nc"}, {"a\nb\nc", 1, 3, api.OK, "ac"}, {"a\nb\n", 3, 1, api.OK, "a\nb"},
		{"abc", 0, -1, api.ErrRange, "abc"}, {"abc", 2, -1, api.ErrRange, "abc"}, {"abc", -1, 0, api.ErrRange, "abc"}, {"abc", -1, 1, api.ErrRange, "abc"}, {"abc", 4, 0, api.ErrRange, "abc"}, {"abc", 4, -1, api.ErrRange, "abc"}, {"abc", 0, 4, api.ErrRange, "abc"}, {"abc", 1, 3, api.ErrRange, "abc"}, {"abc", 3, 1, api.ErrRange, "abc"}, {"", 0, 1, api.ErrRange, ""},
		{"abc", 1, math.MaxInt, api.ErrRange, "abc"}, {"abc", math.MaxInt, 1, api.ErrRange, "abc"}, {"abc", math.MaxInt, math.MaxInt, api.ErrRange, "abc"}, {"abc", 1, math.MinInt, api.ErrRange, "abc"}, {"abc", math.MinInt, math.MinInt, api.ErrRange, "abc"}, {"abc", math.MinInt, math.MaxInt, api.ErrRange, "abc"}, {"abc", -1, math.MaxInt, api.ErrRange, "abc"},
	} {
		x := open(t, g, c.text)
		if e := x.Delete(c.at, c.n); e != c.e || x.Read() != c.want || x.Lines() != 1+strings.Count(c.want, "\n") {
			t.Errorf("P5: case %d: Delete(%d, %d) = %d, %q with %d lines, want %d, %q", i, c.at, c.n, e, x.Read(), x.Lines(), c.e, c.want)
		}
	}
}

// An edit that is refused leaves the colours as they are.
func TestRefusedEdits(t *testing.T) {
	x := open(t, load(t, code), ten)
	before := tell(t, x)
	for i, e := range []api.Errno{
		x.Insert(-1, "\""), x.Insert(len(ten)+1, "/*"), x.Delete(0, -1), x.Delete(0, len(ten)+1), x.Delete(len(ten), 1), x.Delete(-1, 1),
	} {
		if e != api.ErrRange {
			t.Errorf("P5: edit %d: %d", i, e)
		}
	}
	if e := x.Insert(3, strings.Repeat("\"", api.MaxText)); e != api.ErrLong {
		t.Errorf("P5: Insert of too much: %d", e)
	}
	if after := tell(t, x); after != before {
		t.Errorf("P1: a refused edit made %q of %q", after, before)
	}
}

func TestLineRange(t *testing.T) {
	g := load(t, code)
	for _, text := range []string{"", "\n", "1", ten, ten + "\""} {
		x := open(t, g, text)
		for _, i := range []int{0, x.Lines() - 1} {
			if _, e := x.Line(i); e != api.OK {
				t.Errorf("P6: Line(%d) of %q: %d", i, text, e)
			}
			if s, e := x.Stack(i); len(s) == 0 || e != api.OK {
				t.Errorf("P6: Stack(%d) of %q: %v, %d", i, text, s, e)
			}
		}
		for _, i := range []int{-1, x.Lines(), x.Lines() + 1, math.MaxInt, math.MinInt} {
			if l, e := x.Line(i); len(l) != 0 || e != api.ErrRange {
				t.Errorf("P6: Line(%d) of %q: %v, %d", i, text, l, e)
			}
			if s, e := x.Stack(i); len(s) != 0 || e != api.ErrRange {
				t.Errorf("P6: Stack(%d) of %q: %v, %d", i, text, s, e)
			}
		}
	}
}

func TestClosed(t *testing.T) {
	for i, g := range []*Grammar{nil, {}} {
		for _, text := range []string{"", "a", strings.Repeat("a", api.MaxText+1)} {
			if x, e := g.Open(text); x != nil || e != api.ErrClosed {
				t.Errorf("P1: Open with no grammar (%d): %v, %d", i, x, e)
			}
		}
	}
	for i, x := range []*Text{nil, {}} {
		for _, n := range []int{0, -1, 1, math.MaxInt} {
			l, e := x.Line(n)
			s, f := x.Stack(n)
			for _, errno := range []api.Errno{e, f, x.Insert(n, ""), x.Insert(n, strings.Repeat("a", api.MaxText+1)), x.Delete(n, 0), x.Delete(0, n)} {
				if errno != api.ErrClosed {
					t.Errorf("P1: no text (%d): %d", i, errno)
				}
			}
			if len(l) != 0 || len(s) != 0 || x.Read() != "" || x.Lines() != 0 || x.Work() != 0 {
				t.Errorf("P1: no text (%d) has something", i)
			}
		}
	}
}

// checkAnew holds a text against the same one opened anew.
func checkAnew(t *testing.T, g *Grammar, x *Text, text string) {
	t.Helper()
	if got, want := tell(t, x), tell(t, open(t, g, text)); got != want {
		t.Fatalf("P7: edited:\n%s\nopened anew:\n%s", got, want)
	}
}

func TestEveryEditOfASmallText(t *testing.T) {
	g := load(t, code)
	for at := range len(ten) + 1 {
		for _, put := range []string{"", "\n", "\"", "/*", "*/", "1", "\"\n/*", "x\n\"", "\n\n\"*/\n"} {
			x := open(t, g, ten)
			x.Insert(at, put)
			checkAnew(t, g, x, ten[:at]+put+ten[at:])
		}
		for n := range len(ten) - at + 1 {
			x := open(t, g, ten)
			x.Delete(at, n)
			checkAnew(t, g, x, ten[:at]+ten[at+n:])
		}
	}
}

// Edits on edits, by grammars whose stacks grow, shrink and are full.
func TestManyEdits(t *testing.T) {
	r := rand.New(rand.NewPCG(1, 2))
	for _, grammar := range []string{
		code, "state a\n", "state a\npush a x = <\npop y = >\n", "state a\npush b x = <<?\ntoken y = 1+\nstate b\npush a z = <\npop x = >+\npush c x = \"\nstate c\npop y = \"|1\n",
	} {
		g := load(t, grammar)
		for range 12 {
			text := ""
			x := open(t, g, text)
			for range 60 {
				at := r.IntN(len(text) + 1)
				n := r.IntN(min(len(text)-at, 6) + 1)
				put := ""
				for range r.IntN(5) {
					put += string("<<>\"\n\n1/*"[r.IntN(9)])
				}
				if e, f := x.Delete(at, n), x.Insert(at, put); e != api.OK || f != api.OK {
					t.Fatalf("P5: %d, %d", e, f)
				}
				text = text[:at] + put + text[at+n:]
				checkAnew(t, g, x, text)
			}
		}
	}
}

// What came out is written over, and what is behind it, by its owner.
func TestAnswersAreNew(t *testing.T) {
	x := open(t, load(t, code), "1 \"a\n\"2 \"\n/*")
	before := tell(t, x)
	for range 2 {
		for i := range x.Lines() {
			spans, _ := x.Line(i)
			other, _ := x.Line(i)
			kept := slices.Clone(other)
			for j := range spans[:cap(spans)] {
				spans[:cap(spans)][j] = api.Span{From: 9, To: 9, State: "mine", Depth: 9, Colour: "mine"}
			}
			if !slices.Equal(other, kept) {
				t.Errorf("P2: two answers of Line(%d) share memory", i)
			}
			stack, _ := x.Stack(i)
			second, _ := x.Stack(i)
			names := slices.Clone(second)
			for j := range stack[:cap(stack)] {
				stack[:cap(stack)][j] = "mine"
			}
			if !slices.Equal(second, names) {
				t.Errorf("P2: two answers of Stack(%d) share memory", i)
			}
		}
		if after := tell(t, x); after != before {
			t.Errorf("P2: written over by its owner: %q, want %q", after, before)
		}
	}
	x.Insert(0, "2")
	x.Delete(0, 1)
	if after := tell(t, x); after != before {
		t.Errorf("P2: after edits: %q, want %q", after, before)
	}
}

// An answer stays what it was when the text is edited.
func TestAnswersStay(t *testing.T) {
	x := open(t, load(t, code), "1 \"a\n\"2")
	spans, _ := x.Line(1)
	stack, _ := x.Stack(1)
	text, kept, names := x.Read(), slices.Clone(spans), slices.Clone(stack)
	x.Delete(0, 5)
	x.Insert(0, "/*\n\n")
	if !slices.Equal(spans, kept) || !slices.Equal(stack, names) || text != "1 \"a\n\"2" {
		t.Errorf("P2: %v, %v, %q", spans, stack, text)
	}
}

// Texts of one grammar and of two with the same names, edited in turns.
func TestTextsAreApart(t *testing.T) {
	g := load(t, code)
	other := load(t, "state code\npush note quote = 1\nstate note\npop mark = \"\n")
	one, two, three := open(t, g, ten), open(t, g, ten), open(t, other, ten)
	second, third := tell(t, two), tell(t, three)
	for _, put := range []string{"\"", "/*", "\n\n", "1"} {
		one.Insert(0, put)
		one.Delete(5, 3)
		if tell(t, two) != second || tell(t, three) != third {
			t.Fatalf("P2: an edit of one text is seen in another")
		}
	}
	text := one.Read()
	two.Delete(0, len(ten))
	three.Insert(2, "\"1")
	checkAnew(t, g, one, text)
	checkAnew(t, g, two, "")
	checkAnew(t, other, three, ten[:2]+"\"1"+ten[2:])
}

// One grammar, and a text for each goroutine.
func TestTextsInGoroutines(t *testing.T) {
	g := load(t, code)
	texts := make([]*Text, 8)
	var all sync.WaitGroup
	for i := range texts {
		all.Go(func() {
			texts[i], _ = g.Open(ten)
			for j := range 20 {
				texts[i].Insert(j, "\"1\n/*"[i%4:i%4+1])
				texts[i].Delete(2*j%7, 1)
			}
		})
	}
	all.Wait()
	for _, x := range texts {
		checkAnew(t, g, x, x.Read())
	}
}

// Patterns that are slow where a matcher tries one way after another, in lines as long as they can be.
func TestLongLinesEnd(t *testing.T) {
	g := load(t, "state a\ntoken x = (a*)*b\ntoken y = a|(a|a)*c\npush a z = ((((b+)+)+)+)+d\n")
	x := open(t, g, strings.Repeat("a", api.MaxText))
	if l, e := x.Line(0); len(l) != api.MaxText || e != api.OK || l[0].Colour != "y" {
		t.Errorf("P1: %d spans, %d", len(l), e)
	}
	x.Delete(0, 2)
	x.Insert(api.MaxText-2, "b")
	if l, e := x.Line(0); len(l) != 1 || e != api.OK || l[0].Colour != "x" {
		t.Errorf("P1: %d spans, %d", len(l), e)
	}
}
