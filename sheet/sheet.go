// Package sheet: a text and the colours of its lines, kept while it is edited.
package sheet

import (
	"iter"
	"slices"
	"strings"

	"tint/api"
	"tint/paint"
	"tint/rules"
)

// A Sheet is a text and what its lines have come to.
type Sheet struct {
	states []rules.State
	text   string
	lines  []line
	work   int // how many lines have been gone through
}

type line struct {
	stack paint.Stack // where it begins
	spans []api.Span
}

// New colours a text by the rules of a grammar.
func New(states []rules.State, text string) *Sheet {
	s := &Sheet{states: states, text: strings.Clone(text)} // the text itself is the caller's
	s.lines = s.colour(s.text, paint.Bottom(), 1+strings.Count(text, "\n"), nil)
	return s
}

// Text tells the text.
func (s *Sheet) Text() string { return s.text }

// Lines tells how many lines there are.
func (s *Sheet) Lines() int { return len(s.lines) }

// Spans goes through the spans of a line.
func (s *Sheet) Spans(i int) iter.Seq[api.Span] { return slices.Values(s.lines[i].spans) }

// Stack tells the names of the states that are open where a line begins.
func (s *Sheet) Stack(i int) []string { return s.lines[i].stack.Names(s.states) }

// Work tells how many lines have been gone through.
func (s *Sheet) Work() int { return s.work }

// Replace takes out the n bytes from a place on, and puts others in there.
func (s *Sheet) Replace(at, n int, put string) {
	if n == 0 && put == "" {
		return // no line was touched, so none has to be gone through
	}
	ahead, out, rest := s.text[:at], s.text[at:at+n], s.text[at+n:]
	first := strings.Count(ahead, "\n")
	touched := 1 + strings.Count(put, "\n")
	behind := s.lines[first+strings.Count(out, "\n")+1:]
	s.text = strings.Join([]string{ahead, put, rest}, "") // never put itself, which is the caller's
	begin := strings.LastIndex(ahead, "\n") + 1
	anew := s.colour(s.text[begin:], s.lines[first].stack, touched, behind)
	s.lines = slices.Concat(s.lines[:first], anew, behind[len(anew)-touched:])
}

// colour goes through the first lines of a text, that were touched, and through those behind them as long as the stack comes out otherwise than it was.
func (s *Sheet) colour(text string, stack paint.Stack, touched int, behind []line) []line {
	painter := paint.New(s.states)
	var anew []line
	for i, body := range linesOf(text) {
		if i >= touched && behind[i-touched].stack == stack {
			break
		}
		s.work++
		l := line{stack: stack}
		for span, after := range painter.Spans(body, stack) {
			l.spans = append(l.spans, span)
			stack = after
		}
		anew = append(anew, l)
	}
	return anew
}

// linesOf goes through the lines of a text, with their numbers.
func linesOf(text string) iter.Seq2[int, string] {
	return func(yield func(i int, body string) bool) {
		rest, more := text, true
		for i := 0; more; i++ {
			var body string
			body, rest, more = strings.Cut(rest, "\n")
			if !yield(i, body) {
				return
			}
		}
	}
}
