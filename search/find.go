package search

import "iter"

// A Finder looks for a pattern in texts. It remembers what it has worked out, so it isn't for two goroutines at once; the pattern is.
type Finder struct {
	forth reader // of the pattern
	back  reader // of the pattern in reverse
}

// Finder makes one that has nothing to remember yet.
func (p Pattern) Finder() Finder {
	return Finder{newReader(p.list, p.whole), newReader(mirrored(p.list), p.whole)}
}

// Find tells the least place of a text, not ahead of from, where the pattern matches, and the end of the longest match from there.
func (f Finder) Find(text string, from int) (int, int, bool) {
	start, ok := 0, false
	for at := range f.Starts(text, from) {
		start, ok = at, true
	}
	if !ok {
		return 0, 0, false
	}
	return start, f.End(text, start), true
}

// Starts goes through the places of a text where the pattern matches, the last one first, down to from. The text is read backwards: so all ends are tried at once, and the time does not grow with the square of the text.
func (f Finder) Starts(text string, from int) iter.Seq[int] {
	return func(yield func(at int) bool) {
		left := f.back.start
		for at := len(text); ; at-- {
			if f.back.ends(left) && !yield(at) || at <= from {
				return
			}
			left = f.back.give(left, text[at-1]) | f.back.start
		}
	}
}

// End tells the end of the longest match from a place where the pattern matches: it reads on until nothing is left of the pattern.
func (f Finder) End(text string, start int) int {
	stop := start
	left := f.forth.start
	for at := start; left != 0; at++ {
		if f.forth.ends(left) {
			stop = at
		}
		if at == len(text) {
			break
		}
		left = f.forth.give(left, text[at])
	}
	return stop
}
