package search

// Finder makes a function that looks for the pattern in a text, from a place of it on: the least place where it matches, and the end of the longest match from there. The function remembers what it has worked out, so it isn't for two goroutines at once; the pattern is.
func (p Pattern) Finder() func(text string, from int) (int, int, bool) {
	forth := newReader(p.list, p.whole)
	back := newReader(mirrored(p.list), p.whole)
	return func(text string, from int) (int, int, bool) {
		start, ok := leastStart(back, text, from)
		if !ok {
			return 0, 0, false
		}
		return start, longestEnd(forth, text, start), true
	}
}

// leastStart reads the text backwards, with a reader of the pattern in reverse: so all ends are tried at once, and the time does not grow with the square of the text.
func leastStart(back reader, text string, from int) (int, bool) {
	start, ok := 0, false
	left := back.start
	for at := len(text); ; at-- {
		if back.ends(left) {
			start, ok = at, true
		}
		if at <= from {
			return start, ok
		}
		left = back.give(left, text[at-1]) | back.start
	}
}

// longestEnd reads on from a place where the pattern matches until nothing is left of it.
func longestEnd(forth reader, text string, start int) int {
	stop := start
	left := forth.start
	for at := start; left != 0; at++ {
		if forth.ends(left) {
			stop = at
		}
		if at == len(text) {
			break
		}
		left = forth.give(left, text[at])
	}
	return stop
}
