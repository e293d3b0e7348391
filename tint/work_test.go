package tint

import (
	"math"
	"math/rand/v2"
	"strings"
	"testing"

	"tint/api"
)

// edited makes an edit and tells by how much Work has grown. What the text tells behind it is held against the same text opened anew, and that all its lines were asked for must be no work.
func edited(t *testing.T, g *Grammar, x *Text, edit func() api.Errno, text string) int {
	t.Helper()
	before := x.Work()
	if e := edit(); e != api.OK {
		t.Fatalf("P5: an edit towards %q: %d", text, e)
	}
	after := x.Work()
	checkAnew(t, g, x, text)
	if x.Work() != after {
		t.Errorf("P8: questions of %q make %d of %d", text, x.Work(), after)
	}
	return after - before
}

func inserted(t *testing.T, g *Grammar, x *Text, at int, put string) int {
	t.Helper()
	text := x.Read()
	return edited(t, g, x, func() api.Errno { return x.Insert(at, put) }, text[:at]+put+text[at:])
}

func deleted(t *testing.T, g *Grammar, x *Text, at, n int) int {
	t.Helper()
	text := x.Read()
	return edited(t, g, x, func() api.Errno { return x.Delete(at, n) }, text[:at]+text[at+n:])
}

func TestWorkOfTheExample(t *testing.T) {
	g := load(t, code)
	x := open(t, g, strings.Repeat("word\n", 9)+"word")
	const line4 = 4 * len("word\n")
	got := [4]int{x.Work()}
	inserted(t, g, x, line4+1, "a")
	got[1] = x.Work()
	inserted(t, g, x, line4+1, "/*")
	got[2] = x.Work()
	deleted(t, g, x, line4+1, 2)
	got[3] = x.Work()
	if got != [4]int{10, 11, 17, 23} {
		t.Errorf("P8: %v, want 10, 11, 17, 23", got)
	}
}

func TestWorkOfOpen(t *testing.T) {
	g := load(t, code)
	for _, c := range []struct {
		text string
		want int
	}{
		{"", 1}, {"a", 1}, {"\"", 1}, {"\n", 2}, {"a\n", 2}, {"a\nb", 2}, {"a\nb\n", 3}, {"\n\n\n", 4}, {"/*\n\n*/\n\"\n", 5}, {ten, 10}, {"a\r", 1},
		{strings.Repeat("a", api.MaxText), 1}, {strings.Repeat("\n", api.MaxText), api.MaxText + 1},
	} {
		if x := open(t, g, c.text); x.Work() != c.want || x.Lines() != c.want {
			t.Errorf("P8: Open(%.20q): Work %d of %d lines, want %d", c.text, x.Work(), x.Lines(), c.want)
		}
	}
}

// A full stack: a rule that would open one more leaves it as it is.
const nested = "state a\npush a x = <\npop y = >\n"

func TestWorkOfInsert(t *testing.T) {
	const four = "a\nb\nc\nd"
	for i, c := range []struct {
		grammar, text string
		at            int
		put           string
		want          int
	}{
		{code, "", 0, "", 0}, {code, four, 0, "", 0}, {code, four, 3, "", 0}, {code, four, 7, "", 0},
		// In the first line, in one between, in the last one.
		{code, "", 0, "x", 1}, {code, four, 0, "x", 1}, {code, four, 1, "x", 1}, {code, four, 2, "x", 1}, {code, four, 3, "12", 1}, {code, four, 6, "x", 1}, {code, four, 7, "x", 1}, {code, four, 7, "\"", 1}, {code, four + "\n", 8, "/*", 1},
		{code, "", 0, "\n", 2}, {code, four, 0, "\n", 2}, {code, four, 1, "\n", 2}, {code, four, 2, "\n", 2}, {code, four, 7, "\n", 2},
		{code, "", 0, "\n\n\n", 4}, {code, four, 3, "\n\n\n", 4}, {code, four, 0, "x\ny\nz", 3}, {code, four, 4, "x\ny\n", 3}, {code, four, 7, "\nx\ny", 3}, {code, "", 0, strings.Repeat("\n", api.MaxText), api.MaxText + 1},
		// No line behind begins otherwise: what was opened is closed, or was of no weight there.
		{code, four, 0, "\"\"", 1}, {code, four, 2, "/* \" */", 1}, {code, four, 2, "\"\n\"", 2}, {code, "/*\na\n*/", 3, "\"", 1}, {code, "/*\na\n*/", 3, "/*\n", 2}, {code, "a\"\nb\"\nc", 0, "\"\"1", 1},
		{nested, "<<<<<<<\na\n>", 7, "<", 1}, {nested, "a\nb", 0, ">", 1},
		// The next line does, or some do, and the one behind does not.
		{code, "a\nb\n*/\nd\ne", 3, "/*", 2}, {code, "a\n*/\n*/", 1, "/*", 2}, {code, "a\nb\n*/\nd\ne", 3, "\n\n/*", 4}, {nested, "<<<<<<\n<\n<\n>", 0, "<", 2},
		// All do.
		{code, four, 0, "\"", 4}, {code, four, 3, "/*", 3}, {code, four, 5, "\"", 2}, {code, four, 2, "/*\n", 4}, {code, four, 2, "x\n\"\n", 5}, {code, "a\n\"\n\"\nb", 0, "\"\n", 5}, {code, "\"\n\"\n\"\n", 0, "\"", 4}, {code, "\n\n\n", 0, "\"", 4}, {nested, "<\n>\n<\n", 0, "<", 4},
		// Other states are open, as many as before.
		{code, "\"\na\nb", 0, "/*", 3},
	} {
		g := load(t, c.grammar)
		if got := inserted(t, g, open(t, g, c.text), c.at, c.put); got != c.want {
			t.Errorf("P8: case %d: Insert(%d, %.20q) in %.20q: %d lines were gone through, want %d", i, c.at, c.put, c.text, got, c.want)
		}
	}
}

func TestWorkOfDelete(t *testing.T) {
	const four = "a\nb\nc\nd"
	for i, c := range []struct {
		grammar, text string
		at, n, want   int
	}{
		{code, "", 0, 0, 0}, {code, four, 0, 0, 0}, {code, four, 3, 0, 0}, {code, four, 7, 0, 0},
		{code, four, 0, 1, 1}, {code, four, 2, 1, 1}, {code, four, 6, 1, 1}, {code, "ab", 0, 1, 1}, {code, "ab", 1, 1, 1},
		// A byte 10, several lines, all.
		{code, "\n", 0, 1, 1}, {code, four, 1, 1, 1}, {code, four, 3, 1, 1}, {code, four, 5, 1, 1}, {code, four + "\n", 7, 1, 1}, {code, "\n\n\n", 1, 1, 1},
		{code, four, 0, 4, 1}, {code, four, 1, 4, 1}, {code, four, 3, 4, 1}, {code, four, 1, 6, 1}, {code, four, 0, 7, 1}, {code, "a", 0, 1, 1}, {code, ten, 0, len(ten), 1}, {code, strings.Repeat("\n", api.MaxText), 0, api.MaxText, 1},
		// No line behind begins otherwise.
		{code, "\"\"\nb\nc", 0, 2, 1}, {code, "a\n\"\n\"\nb", 2, 3, 1}, {code, "/*\n/*\"\n*/\n", 3, 3, 1}, {code, "a\n/*\nb\n*/\nc", 2, 7, 1}, {nested, "<<<<<<<<<\na\n>", 2, 2, 1}, {nested, ">\nb", 0, 1, 1},
		// The next line does, or some do, and the one behind does not.
		{code, "a\n/*b\n*/\nd\ne", 2, 2, 2}, {code, "a\n/*\n*/b\n\"\n\"", 2, 2, 2}, {code, "a\n/*\nb\n*/\nd", 1, 4, 2}, {code, "a\n/*\nb\n*/\nd", 1, 3, 3},
		// All do.
		{code, "\"\nb\nc\nd", 0, 1, 4}, {code, "a\n/*\nc\nd", 2, 2, 3}, {code, "a\n\"\n\"\n\"\n\"", 2, 2, 3}, {code, "a\nb\"\n\"c\nd\ne", 0, 4, 4}, {nested, "<<<\n>\n<\n>", 1, 1, 4},
		{code, "\"/*\na\nb", 0, 1, 3},
	} {
		g := load(t, c.grammar)
		if got := deleted(t, g, open(t, g, c.text), c.at, c.n); got != c.want {
			t.Errorf("P8: case %d: Delete(%d, %d) of %.20q: %d lines were gone through, want %d", i, c.at, c.n, c.text, got, c.want)
		}
	}
}

// Lines that an edit made other ones, and the next one makes again what they were: both have gone through them, and no edit later on owes them anything.
func TestWorkThereAndBack(t *testing.T) {
	g := load(t, code)
	x := open(t, g, "a\nb\nc\nd\ne")
	for i, c := range []struct {
		at, n int
		put   string
		want  int
	}{
		{2, 0, "/*", 4}, {2, 2, "", 4}, {2, 0, "\"", 4}, {4, 0, "\"", 4}, {3, 0, "1", 1}, {2, 1, "", 4}, {4, 1, "", 4}, {2, 1, "", 1},
		{2, 0, "/*", 4}, {6, 0, "*/", 3}, {2, 2, "", 2}, {4, 2, "", 1}, {1, 1, "", 1}, {1, 0, "\n", 2},
	} {
		got := 0
		if c.n > 0 {
			got = deleted(t, g, x, c.at, c.n)
		} else {
			got = inserted(t, g, x, c.at, c.put)
		}
		if got != c.want {
			t.Errorf("P8: edit %d, of %q: %d lines were gone through, want %d", i, x.Read(), got, c.want)
		}
	}
}

// stacks tells the stacks of all lines of a text that is opened anew.
func stacks(t *testing.T, g *Grammar, text string) []string {
	t.Helper()
	x := open(t, g, text)
	var out []string
	for i := range x.Lines() {
		names, _ := x.Stack(i)
		out = append(out, strings.Join(names, " "))
	}
	return out
}

// otherwise counts, of so many lines at the ends of two texts, those that begin with another stack.
func otherwise(t *testing.T, g *Grammar, before, after string, lines int) int {
	t.Helper()
	was, is := stacks(t, g, before), stacks(t, g, after)
	n := 0
	for i := 1; i <= lines; i++ {
		if was[len(was)-i] != is[len(is)-i] {
			n++
		}
	}
	return n
}

// Edits of any kind: at most what the promise says, and no less than the lines that begin otherwise.
func TestWorkOfManyEdits(t *testing.T) {
	r := rand.New(rand.NewPCG(3, 4))
	for _, grammar := range []string{
		code, "state a\n", nested, "state a\npush b x = <<?\ntoken y = 1+\nstate b\npush a z = <\npop x = >+\npush c x = \"\nstate c\npop y = \"|1\n",
	} {
		g := load(t, grammar)
		for range 12 {
			x := open(t, g, "")
			for range 60 {
				text := x.Read()
				at, n, put, got := r.IntN(len(text)+1), 0, "", 0
				if r.IntN(3) == 0 {
					n = r.IntN(min(len(text)-at, 9) + 1)
					got = deleted(t, g, x, at, n)
				} else {
					for range r.IntN(5) {
						put += string("<<>\"\n\n1/*a"[r.IntN(10)])
					}
					got = inserted(t, g, x, at, put)
				}
				least := otherwise(t, g, text, x.Read(), strings.Count(text[at+n:], "\n"))
				most := 1 + strings.Count(put, "\n") + least
				if got < least || got > most {
					t.Fatalf("P8: %q, %d bytes out at %d, %q in: %d lines were gone through, want %d to %d", text, n, at, put, got, least, most)
				}
			}
		}
	}
}

func TestWorkOfRefusedCalls(t *testing.T) {
	x := open(t, load(t, code), ten)
	x.Insert(3, "\"")
	work, size := x.Work(), len(x.Read())
	for _, i := range []int{-1, x.Lines(), size + 1, math.MaxInt, math.MinInt} {
		_, e := x.Line(i)
		_, f := x.Stack(i)
		if e != api.ErrRange || f != api.ErrRange {
			t.Errorf("P6: line %d: %d, %d", i, e, f)
		}
	}
	for i, e := range []api.Errno{
		x.Insert(-1, "\""), x.Insert(size+1, "/*\n"), x.Insert(-1, ""), x.Insert(math.MaxInt, "a"), x.Delete(0, -1), x.Delete(-1, 0), x.Delete(size+1, 0), x.Delete(0, size+1), x.Delete(1, math.MaxInt), x.Delete(math.MinInt, 1),
	} {
		if e != api.ErrRange {
			t.Errorf("P5: edit %d: %d", i, e)
		}
	}
	if e := x.Insert(0, strings.Repeat("\"\n", api.MaxText)); e != api.ErrLong {
		t.Errorf("P5: Insert of too much: %d", e)
	}
	if x.Work() != work {
		t.Errorf("P1, P8: what is refused makes %d of %d", x.Work(), work)
	}
}

func TestWorkOfQuestions(t *testing.T) {
	x := open(t, load(t, code), ten)
	x.Insert(0, "/*")
	work := x.Work()
	for range 3 {
		for i := range x.Lines() {
			x.Line(i)
			x.Stack(i)
			x.Read()
			x.Lines()
			if x.Work() != work || x.Work() != work {
				t.Fatalf("P8: questions make %d of %d", x.Work(), work)
			}
		}
	}
}

func TestWorkOfNoText(t *testing.T) {
	var none *Text
	for i, x := range []*Text{none, {}, new(Text)} {
		for range 2 {
			if x.Work() != 0 {
				t.Errorf("P1: no text (%d): Work %d", i, x.Work())
			}
			if e, f := x.Insert(0, "a\n"), x.Delete(0, 0); e != api.ErrClosed || f != api.ErrClosed {
				t.Errorf("P1: no text (%d): %d, %d", i, e, f)
			}
		}
	}
}

// Two texts of one grammar and one of another, edited in turns: each is counted as if it were alone.
func TestWorkOfSeveralTexts(t *testing.T) {
	g, other := load(t, code), load(t, nested)
	one, two, three := open(t, g, "a\nb\nc"), open(t, g, "\"\n\"\n\n"), open(t, other, "<\n>")
	check := func(a, b, c int) {
		t.Helper()
		if one.Work() != a || two.Work() != b || three.Work() != c {
			t.Errorf("P2, P8: Work %d, %d, %d, want %d, %d, %d", one.Work(), two.Work(), three.Work(), a, b, c)
		}
	}
	check(3, 4, 2)
	inserted(t, g, one, 0, "/*")
	check(6, 4, 2)
	deleted(t, g, two, 0, 1)
	check(6, 8, 2)
	inserted(t, other, three, 0, "<")
	check(6, 8, 4)
	inserted(t, g, two, 0, "/*")
	check(6, 12, 4)
	deleted(t, g, one, 0, 2)
	check(9, 12, 4)
	open(t, g, ten)
	deleted(t, other, three, 1, 1)
	check(9, 12, 6)
}
