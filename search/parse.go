package search

import (
	"strings"

	"tint/api"
)

// signs are the bytes that stand for themselves only behind a backslash.
const signs = `\()[]|*+?.^-`

// A Pattern is an expression and its parts; Parse makes it, and nothing changes it.
type Pattern struct {
	list  []expression
	whole int
}

// Parse reads a pattern: ErrLong, if it has more than MaxPattern bytes; ErrPattern, if it is none.
func Parse(text string) (Pattern, api.Errno) {
	if len(text) > api.MaxPattern {
		return Pattern{}, api.ErrLong
	}
	p := parser{text: text, list: newList()}
	whole, ok := p.choices()
	if !ok || p.at < len(text) {
		return Pattern{}, api.ErrPattern
	}
	return Pattern{p.list, whole}, api.OK
}

// MatchesEmpty tells whether a pattern that Parse made matches the empty text.
func (p Pattern) MatchesEmpty() bool { return p.list[p.whole].empty }

// A parser stands at a place of the text; what it has read is in the list.
type parser struct {
	text string
	at   int
	list []expression
}

func (p *parser) add(e expression) int {
	e.empty = matchesEmpty(p.list, e)
	p.list = append(p.list, e)
	return len(p.list) - 1
}

// next tells whether one of these bytes stands here.
func (p *parser) next(bytes string) bool {
	return p.at < len(p.text) && strings.IndexByte(bytes, p.text[p.at]) >= 0
}

// take goes on behind the byte b, if it stands here.
func (p *parser) take(b byte) bool {
	if p.at < len(p.text) && p.text[p.at] == b {
		p.at++
		return true
	}
	return false
}

// choices reads an ALT.
func (p *parser) choices() (int, bool) {
	left, ok := p.pieces()
	for ok && p.take('|') {
		var right int
		right, ok = p.pieces()
		if ok {
			left = p.add(expression{kind: choice, left: left, right: right})
		}
	}
	return left, ok
}

// pieces reads a CAT.
func (p *parser) pieces() (int, bool) {
	var parts []int
	for p.at < len(p.text) && !p.next("|)") {
		part, ok := p.piece()
		if !ok {
			return 0, false
		}
		parts = append(parts, part)
	}
	return p.inSequence(parts), true
}

// inSequence puts the last ones together first, so that what is left behind the first part is in the list already.
func (p *parser) inSequence(parts []int) int {
	if len(parts) == 0 {
		return end
	}
	whole := parts[len(parts)-1]
	for i := len(parts) - 2; i >= 0; i-- {
		whole = p.add(expression{kind: sequence, left: parts[i], right: whole})
	}
	return whole
}

// piece reads an ATOM and the sign behind it.
func (p *parser) piece() (int, bool) {
	atom, ok := p.atom()
	if !ok {
		return 0, false
	}
	switch {
	case p.take('*'):
		return p.add(expression{kind: anyTimes, left: atom}), true
	case p.take('+'):
		again := p.add(expression{kind: anyTimes, left: atom})
		return p.add(expression{kind: someTimes, left: atom, right: again}), true
	case p.take('?'):
		return p.add(expression{kind: onceOrNever, left: atom}), true
	}
	return atom, true
}

// atom reads an ATOM.
func (p *parser) atom() (int, bool) {
	switch {
	case p.take('('):
		inner, ok := p.choices()
		return inner, ok && p.take(')')
	case p.take('.'):
		return p.add(expression{kind: oneByte, has: every}), true
	case p.take('['):
		has, ok := p.class()
		return p.add(expression{kind: oneByte, has: has}), ok
	}
	b, ok := p.one()
	return p.add(expression{kind: oneByte, has: between(b, b)}), ok
}

// class reads what stands behind the "[" of a class.
func (p *parser) class() (class, bool) {
	others := p.take('^')
	has, ok := p.oneRange()
	for ok && !p.take(']') {
		var more class
		more, ok = p.oneRange()
		has = either(has, more)
	}
	if others {
		has = allBut(has)
	}
	return has, ok
}

// oneRange reads a RANGE.
func (p *parser) oneRange() (class, bool) {
	low, ok := p.one()
	high := low
	if ok && p.take('-') {
		high, ok = p.one()
	}
	return between(low, high), ok && low <= high
}

// one reads a ONE.
func (p *parser) one() (byte, bool) {
	escaped := p.take('\\')
	if p.at == len(p.text) || escaped != p.next(signs) {
		return 0, false
	}
	b := p.text[p.at]
	p.at++
	return b, 32 <= b && b <= 126
}
