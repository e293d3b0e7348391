package sheet

import (
	"slices"
	"strings"
	"testing"
	"unsafe"

	"tint/api"
	"tint/rules"
)

const code = "state code\npush text quote = \"\npush note mark = /\\*\ntoken number = [0-9]+\nstate text\npop quote = \"\nstate note\npop mark = \\*/\n"

func open(t *testing.T, text string) *Sheet {
	t.Helper()
	states, e, at := rules.Read(code)
	if e != api.OK {
		t.Fatalf("P4: Read = %d, %d", e, at)
	}
	return New(states, text)
}

func TestLinesOf(t *testing.T) {
	for _, want := range [][]string{{""}, {"a"}, {"", ""}, {"a", ""}, {"", "a"}, {"ab", "", "c\r", " ", ""}} {
		lines := linesOf(strings.Join(want, "\n"))
		for range 2 {
			for most := 1; most <= len(want); most++ {
				var got []string
				for i, body := range lines {
					if i != len(got) {
						t.Errorf("line %d has the number %d", len(got), i)
					}
					if got = append(got, body); len(got) == most {
						break
					}
				}
				if !slices.Equal(got, want[:most]) {
					t.Errorf("left after %d: %q, want %q", most, got, want[:most])
				}
			}
		}
		n := 0
		for range lines {
			n++
		}
		if n != len(want) {
			t.Errorf("P5: %d lines of %q", n, want)
		}
	}
}

// keptFrom tells of each line of a Sheet whose line it was before, or -1: a line that is gone through anew has new memory.
func keptFrom(before, now []line) []int {
	var out []int
	for _, l := range now {
		out = append(out, slices.IndexFunc(before, func(b line) bool { return &b.spans[0] == &l.spans[0] }))
	}
	return out
}

func TestReplaceGoesThroughWhatMattersOnly(t *testing.T) {
	for i, c := range []struct {
		text  string
		at, n int
		put   string
		want  []int
	}{
		{"a\nb\nc\nd", 3, 0, "x", []int{0, -1, 2, 3}}, {"a\nb\nc\nd", 2, 1, "x", []int{0, -1, 2, 3}}, {"a\nb\nc\nd", 0, 0, "x", []int{-1, 1, 2, 3}}, {"a\nb\nc\nd", 7, 0, "x", []int{0, 1, 2, -1}},
		{"a\nb\nc\nd", 2, 0, "x\ny\nz", []int{0, -1, -1, -1, 2, 3}}, {"a\nb\nc\nd", 3, 1, "", []int{0, -1, 3}}, {"a\nb\nc\nd", 1, 4, "", []int{-1, 3}}, {"a\nb\nc\nd", 1, 4, "x\ny", []int{-1, -1, 3}},
		// The stack comes out otherwise, up to the end or up to a line where it does not.
		{"a\nb\nc\nd", 3, 0, "/*", []int{0, -1, -1, -1}}, {"a\nb\n\"c\nd\"\ne", 2, 0, "\"", []int{0, -1, -1, -1, -1}}, {"a\nb\n*/\nd\ne", 3, 0, "/*", []int{0, -1, -1, 3, 4}},
		{"a\n/*\nc\n*/\ne", 2, 2, "x", []int{0, -1, -1, -1, 4}}, {"a\n/*\nc\n*/\ne", 2, 2, "\"", []int{0, -1, -1, -1, -1}}, {"a\n/*\nc\n*/\ne", 3, 4, "", []int{0, -1, -1}},
		{"a\n/*\nc\n*/\ne", 4, 0, "\"", []int{0, -1, 2, 3, 4}}, {"a\n/*b\nc\n*/\ne", 5, 1, "", []int{0, -1, 3, 4}},
		// Nothing is taken out and nothing put in.
		{"a\nb\nc\nd", 0, 0, "", []int{0, 1, 2, 3}}, {"a\nb\nc\nd", 3, 0, "", []int{0, 1, 2, 3}}, {"a\nb\nc\nd", 7, 0, "", []int{0, 1, 2, 3}},
	} {
		s := open(t, c.text)
		before, work := s.lines, s.Work()
		s.Replace(c.at, c.n, c.put)
		if got := keptFrom(before, s.lines); !slices.Equal(got, c.want) {
			t.Errorf("case %d: the lines were %v, want %v", i, got, c.want)
		}
		if got, want := s.Work()-work, countAnew(c.want); got != want {
			t.Errorf("P8: case %d: Work has grown by %d, and %d lines are new", i, got, want)
		}
	}
}

func countAnew(kept []int) int {
	n := 0
	for _, from := range kept {
		if from == -1 {
			n++
		}
	}
	return n
}

// A string that is handed in is not kept, whole or in part.
func TestReplaceKeepsNoString(t *testing.T) {
	put := strings.Repeat("1 \"x\n", 9)
	begin := uintptr(unsafe.Pointer(unsafe.StringData(put)))
	inside := func(text string) bool {
		at := uintptr(unsafe.Pointer(unsafe.StringData(text)))
		return at >= begin && at < begin+uintptr(len(put))
	}
	s := open(t, put)
	if inside(s.Text()) {
		t.Error("New keeps its text")
	}
	s.Replace(0, len(s.Text()), put)
	if inside(s.Text()) || s.Text() != put {
		t.Error("Replace keeps what is put in")
	}
}
