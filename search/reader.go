package search

import (
	"math/bits"
	"slices"

	"tint/memo"
)

// A set is some of the expressions that a reader has numbered, a bit each: a pattern has at most MaxPattern bytes, so 64 are enough (see derive).
type set uint64

// A reader gives bytes to a pattern, one after another.
type reader struct {
	start set                        // the pattern itself
	give  func(left set, b byte) set // what is left of any of these, given a byte
	ends  func(left set) bool        // one of these matches the empty text
}

func newReader(list []expression, whole int) reader {
	s := &shelf{slices.Clone(list), map[pair]int{}}
	number, expressionOf := numbering()
	var ending set
	mark := func(at int) set {
		bit := set(1) << number(at)
		if s.list[at].empty {
			ending |= bit
		}
		return bit
	}
	after := memo.Remember(func(g given) set {
		var left set
		for _, at := range s.derive(expressionOf(g.number), g.b) {
			left |= mark(at)
		}
		return left
	})
	return reader{
		start: mark(whole),
		give:  func(left set, b byte) set { return giveEach(after, left, b) },
		ends:  func(left set) bool { return left&ending != 0 },
	}
}

// numbering gives expressions small numbers, in the order in which they are first asked for, and tells whose a number is.
func numbering() (number func(at int) int, expressionOf func(n int) int) {
	numbers := map[int]int{}
	var places []int
	number = func(at int) int {
		n, ok := numbers[at]
		if !ok {
			n = len(places)
			numbers[at] = n
			places = append(places, at)
		}
		return n
	}
	return number, func(n int) int { return places[n] }
}

// given is an expression, by its number, and the byte that it is given.
type given struct {
	number int
	b      byte
}

func giveEach(after func(g given) set, left set, b byte) set {
	var out set
	for ; left != 0; left &= left - 1 {
		out |= after(given{bits.TrailingZeros64(uint64(left)), b})
	}
	return out
}
