package search

import (
	"math/rand/v2"
	"regexp"
	"slices"
	"strings"
	"testing"

	"tint/api"
)

// twin is a pattern, and the same in the library's way of writing them.
type twin struct{ ours, theirs string }

func randomTwin(r *rand.Rand, depth int) twin {
	if depth == 0 {
		return randomAtom(r)
	}
	switch r.IntN(7) {
	case 0, 1:
		a, b := randomTwin(r, depth-1), randomTwin(r, depth-1)
		return twin{a.ours + b.ours, a.theirs + b.theirs}
	case 2:
		a, b := randomTwin(r, depth-1), randomTwin(r, depth-1)
		return twin{"(" + a.ours + "|" + b.ours + ")", "(?:" + a.theirs + "|" + b.theirs + ")"}
	case 3:
		return randomAtom(r)
	default:
		a := randomTwin(r, depth-1)
		sign := string("*+?"[r.IntN(3)])
		return twin{"(" + a.ours + ")" + sign, "(?:" + a.theirs + ")" + sign}
	}
}

func randomAtom(r *rand.Rand) twin {
	atoms := []twin{{"a", "a"}, {"b", "b"}, {"c", "c"}, {".", "(?s:.)"}, {"[ab]", "[ab]"}, {"[^a]", "[^a]"}, {"[b-d]", "[b-d]"}, {"()", "(?:)"}, {"$", `\$`}, {"\\*", `\*`}}
	return atoms[r.IntN(len(atoms))]
}

func randomText(r *rand.Rand, most int) string {
	const bytes = "aaabbbccd$*\n\xff"
	out := make([]byte, r.IntN(most+1))
	for i := range out {
		out[i] = bytes[r.IntN(len(bytes))]
	}
	return string(out)
}

// The library's patterns, asked for the longest match, find the same.
func TestFindAgainstLibrary(t *testing.T) {
	r := rand.New(rand.NewPCG(1, 2))
	for range 6000 {
		w := randomTwin(r, 1+r.IntN(5))
		if len(w.ours) > api.MaxPattern {
			continue
		}
		p, e := Parse(w.ours)
		if e != api.OK {
			t.Fatalf("P3: Parse(%q) = %d", w.ours, e)
		}
		want := regexp.MustCompile(w.theirs)
		want.Longest()
		find := p.Finder().Find
		for range 8 {
			text := randomText(r, 14)
			from := r.IntN(len(text) + 1)
			a, b, ok := find(text, from)
			at := want.FindStringIndex(text[from:])
			if ok != (at != nil) || ok && (a != at[0]+from || b != at[1]+from) {
				t.Fatalf("P3: %q in %q from %d: %d, %d, %v, want %v behind that", w.ours, text, from, a, b, ok, at)
			}
		}
	}
}

// The derivatives of a pattern are as many as its bytes at the most, and the pattern itself: else the bits of a set would not do.
func TestDerivativesAreFew(t *testing.T) {
	r := rand.New(rand.NewPCG(3, 4))
	sources := []string{strings.Repeat("a", 60), strings.Repeat("a?", 30), "(" + strings.Repeat("a*", 28) + ")+b", strings.Repeat("(", 19) + "aaa" + strings.Repeat(")+", 19), strings.Repeat("(", 19) + "a*a" + strings.Repeat(")*", 19), "(a|b)*a" + strings.Repeat(".", 53), strings.Repeat("a|", 29) + "bb", strings.Repeat("(a|b)*", 10)}
	for range 300 {
		if w := randomTwin(r, 6); len(w.ours) <= api.MaxPattern {
			sources = append(sources, w.ours)
		}
	}
	for _, source := range sources {
		p, e := Parse(source)
		if e != api.OK {
			t.Fatalf("P3: Parse(%q) = %d", source, e)
		}
		for _, list := range [][]expression{p.list, mirrored(p.list)} {
			s := &shelf{append([]expression(nil), list...), map[pair]int{}}
			seen := map[int]bool{p.whole: true}
			for work := []int{p.whole}; len(work) > 0; work = work[1:] {
				for i := range 256 {
					for _, left := range s.derive(work[0], byte(i)) {
						if !seen[left] {
							seen[left] = true
							work = append(work, left)
						}
					}
				}
			}
			if len(seen) > len(source)+1 {
				t.Errorf("%q has %d derivatives", source, len(seen))
			}
		}
	}
}

func TestClasses(t *testing.T) {
	for _, c := range []struct {
		source string
		has    func(b byte) bool
	}{
		{".", func(b byte) bool { return true }},
		{"a", func(b byte) bool { return b == 'a' }},
		{"[a-cx]", func(b byte) bool { return b >= 'a' && b <= 'c' || b == 'x' }},
		{"[^a-cx]", func(b byte) bool { return !(b >= 'a' && b <= 'c' || b == 'x') }},
		{"[ -~]", func(b byte) bool { return b >= 32 && b <= 126 }},
		{"[^ -~]", func(b byte) bool { return b < 32 || b > 126 }},
		{"[\\^\\-\\]]", func(b byte) bool { return b == '^' || b == '-' || b == ']' }},
		{"[\\(-\\+]", func(b byte) bool { return b >= '(' && b <= '+' }},
	} {
		p, _ := Parse(c.source)
		find := p.Finder().Find
		for i := range 256 {
			if _, _, ok := find(string([]byte{byte(i)}), 0); ok != c.has(byte(i)) {
				t.Errorf("P3: %q has byte %d: %v", c.source, i, ok)
			}
		}
	}
}

// A finder's memory is its own, and does not change what it answers.
func TestFinderAnswersTheSameAgain(t *testing.T) {
	p, _ := Parse("(a|b)*c+")
	one, other := p.Finder().Find, p.Finder().Find
	for range 3 {
		for _, text := range []string{"abccb", "", "cab", "xxabc"} {
			for from := range len(text) + 1 {
				a, b, ok := one(text, from)
				c, d, ok2 := p.Finder().Find(text, from)
				if a != c || b != d || ok != ok2 {
					t.Errorf("P3: %q from %d: %d, %d, %v, anew %d, %d, %v", text, from, a, b, ok, c, d, ok2)
				}
			}
		}
	}
	if a, b, ok := other("xbc", 0); a != 1 || b != 3 || !ok {
		t.Errorf("P3: another finder: %d, %d, %v", a, b, ok)
	}
}

// A place is among the starts if the library's pattern, held to that place, matches; the last comes first.
func TestStartsAgainstLibrary(t *testing.T) {
	r := rand.New(rand.NewPCG(5, 6))
	for range 1500 {
		w := randomTwin(r, 1+r.IntN(4))
		p, e := Parse(w.ours)
		if e != api.OK {
			continue
		}
		want := regexp.MustCompile("^(?:" + w.theirs + ")")
		text := randomText(r, 14)
		from := r.IntN(len(text) + 1)
		var places []int
		for at := len(text); at >= from; at-- {
			if want.MatchString(text[at:]) {
				places = append(places, at)
			}
		}
		starts := p.Finder().Starts(text, from)
		if got := slices.Collect(starts); !slices.Equal(got, places) {
			t.Fatalf("P3: %q in %q from %d starts at %v, want %v", w.ours, text, from, got, places)
		}
		if got := slices.Collect(starts); !slices.Equal(got, places) {
			t.Fatalf("P3: %q in %q from %d starts at %v, gone through again, want %v", w.ours, text, from, got, places)
		}
	}
}

func TestStartsLeftEarly(t *testing.T) {
	p, _ := Parse("a")
	for most := 1; most <= 4; most++ {
		var got []int
		for at := range p.Finder().Starts("xaaaa", 0) {
			got = append(got, at)
			if len(got) == most {
				break
			}
		}
		if want := []int{4, 3, 2, 1}[:most]; !slices.Equal(got, want) {
			t.Errorf("left after %d: %v", most, got)
		}
	}
}
