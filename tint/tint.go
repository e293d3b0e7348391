// Package tint: text that is coloured by rules, and anew only where an edit matters: see DOC.md.
package tint

import (
	"slices"

	"tint/api"
	"tint/rules"
	"tint/search"
	"tint/sheet"
)

// Grammar is states and their rules.
type Grammar struct {
	states []rules.State // none: Load did not make it
}

// Text is a text that is coloured.
type Text struct {
	sheet *sheet.Sheet // nil: Open did not make it
}

// Match looks for a pattern (P3).
func Match(pattern string, text string, from int) (int, int, bool, api.Errno) {
	p, errno := search.Parse(pattern)
	if errno != api.OK {
		return 0, 0, false, errno
	}
	if from < 0 || from > len(text) {
		return 0, 0, false, api.ErrRange
	}
	start, end, ok := p.Finder().Find(text, from)
	return start, end, ok, api.OK
}

// Load reads a grammar (P4).
func Load(grammar string) (*Grammar, api.Errno, int) {
	states, errno, at := rules.Read(grammar)
	if errno != api.OK {
		return nil, errno, at
	}
	return &Grammar{states}, api.OK, 0
}

// Open colours a text (P5).
func (g *Grammar) Open(text string) (*Text, api.Errno) {
	if g == nil || len(g.states) == 0 {
		return nil, api.ErrClosed
	}
	if len(text) > api.MaxText {
		return nil, api.ErrLong
	}
	return &Text{sheet.New(g.states, text)}, api.OK
}

// Insert puts bytes in (P5).
func (t *Text) Insert(at int, text string) api.Errno {
	if t.closed() {
		return api.ErrClosed
	}
	size := len(t.sheet.Text())
	if at < 0 || at > size {
		return api.ErrRange
	}
	if len(text) > api.MaxText-size {
		return api.ErrLong
	}
	t.sheet.Replace(at, 0, text)
	return api.OK
}

// Delete takes bytes out (P5).
func (t *Text) Delete(at int, n int) api.Errno {
	if t.closed() {
		return api.ErrClosed
	}
	size := len(t.sheet.Text())
	if n < 0 || at < 0 || at > size || n > size-at {
		return api.ErrRange
	}
	t.sheet.Replace(at, n, "")
	return api.OK
}

// Read tells the text (P5).
func (t *Text) Read() string {
	if t.closed() {
		return ""
	}
	return t.sheet.Text()
}

// Lines tells how many lines there are (P5).
func (t *Text) Lines() int {
	if t.closed() {
		return 0
	}
	return t.sheet.Lines()
}

// Line tells a line's spans (P6).
func (t *Text) Line(i int) ([]api.Span, api.Errno) {
	if errno := t.lineFault(i); errno != api.OK {
		return nil, errno
	}
	return slices.Collect(t.sheet.Spans(i)), api.OK
}

// Stack tells the states that are open where a line begins (P6).
func (t *Text) Stack(i int) ([]string, api.Errno) {
	if errno := t.lineFault(i); errno != api.OK {
		return nil, errno
	}
	return t.sheet.Stack(i), api.OK
}

// Work tells how many lines have been gone through (P8).
func (t *Text) Work() int {
	if t.closed() {
		return 0
	}
	return t.sheet.Work()
}

func (t *Text) closed() bool { return t == nil || t.sheet == nil }

// lineFault tells what is wrong with asking for a line of that number.
func (t *Text) lineFault(i int) api.Errno {
	if t.closed() {
		return api.ErrClosed
	}
	if i < 0 || i >= t.sheet.Lines() {
		return api.ErrRange
	}
	return api.OK
}
