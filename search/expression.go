// Package search: patterns, and looking for them by their derivatives.
package search

import "slices"

// kind tells what an expression is made of.
type kind int

const (
	nothing     kind = iota // the empty text
	oneByte                 // a byte of a class
	sequence                // left, and right behind it
	choice                  // left or right
	anyTimes                // left as often as you like
	someTimes               // likewise, but not never; right is the anyTimes of left
	onceOrNever             // left or the empty text
)

// end is the place of the empty text in every list of expressions: what is left of one that has been given all its bytes.
const end = 0

// An expression names its parts by their places in the list that it stands in, so that two of them are the same where two numbers are.
type expression struct {
	kind        kind
	has         class
	left, right int
	empty       bool // it matches the empty text
}

// newList has the one expression that every list begins with.
func newList() []expression {
	return []expression{{kind: nothing, empty: true}}
}

// matchesEmpty tells it of an expression whose parts are in the list already.
func matchesEmpty(list []expression, e expression) bool {
	switch e.kind {
	case nothing, anyTimes, onceOrNever:
		return true
	case sequence:
		return list[e.left].empty && list[e.right].empty
	case choice:
		return list[e.left].empty || list[e.right].empty
	case someTimes:
		return list[e.left].empty
	}
	return false
}

// mirrored has at each place the expression that matches the same bytes in reverse.
func mirrored(list []expression) []expression {
	out := slices.Clone(list)
	for i, e := range out {
		if e.kind == sequence {
			out[i].left, out[i].right = e.right, e.left
		}
	}
	return out
}
