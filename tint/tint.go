// Package tint: text that is coloured by rules, and anew only where an edit matters: see DOC.md.
package tint

import (
	"tint/api"
	"tint/rules"
	"tint/search"
)

// Grammar is states and their rules.
type Grammar struct {
	states []rules.State
}

// Text is a text that is coloured.
type Text struct{}

// Match looks for a pattern (P3).
func Match(pattern string, text string, from int) (int, int, bool, api.Errno) {
	p, errno := search.Parse(pattern)
	if errno != api.OK {
		return 0, 0, false, errno
	}
	if from < 0 || from > len(text) {
		return 0, 0, false, api.ErrRange
	}
	start, end, ok := p.Finder()(text, from)
	return start, end, ok, api.OK
}

// Load reads a grammar (P4).
func Load(grammar string) (*Grammar, api.Errno, int) {
	states, errno, at := rules.Read(grammar)
	if errno != api.OK {
		return nil, errno, at
	}
	return &Grammar{states}, api.OK, 0
}

// Open colours a text (P5).
func (g *Grammar) Open(text string) (*Text, api.Errno) { return nil, api.OK }

// Insert puts bytes in (P5).
func (t *Text) Insert(at int, text string) api.Errno { return api.OK }

// Delete takes bytes out (P5).
func (t *Text) Delete(at int, n int) api.Errno { return api.OK }

// Read tells the text (P5).
func (t *Text) Read() string { return "" }

// Lines tells how many lines there are (P5).
func (t *Text) Lines() int { return 0 }

// Line tells a line's spans (P6).
func (t *Text) Line(i int) ([]api.Span, api.Errno) { return nil, api.OK }

// Stack tells the states that are open where a line begins (P6).
func (t *Text) Stack(i int) ([]string, api.Errno) { return nil, api.OK }

// Work tells how many lines have been gone through (P8).
func (t *Text) Work() int { return 0 }
