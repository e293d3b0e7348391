// Package paint: going through a line, and what colours it gets.
package paint

import (
	"iter"
	"slices"

	"tint/api"
	"tint/memo"
	"tint/rules"
	"tint/search"
)

// A Painter goes through lines by the rules of a grammar. It remembers what it has worked out of their patterns, so it isn't for two goroutines at once; the states are.
type Painter struct {
	states  []rules.State
	finders func(state int) []search.Finder // of the state's rules
}

// New makes a Painter that has nothing to remember yet.
func New(states []rules.State) Painter {
	return Painter{states, memo.Remember(func(state int) []search.Finder {
		var finders []search.Finder
		for _, r := range states[state].Rules {
			finders = append(finders, r.Pattern.Finder())
		}
		return finders
	})}
}

// Spans goes through a line with the stack where it begins: each span, and the stack behind it.
func (p Painter) Spans(line string, before Stack) iter.Seq2[api.Span, Stack] {
	return func(yield func(api.Span, Stack) bool) {
		stack := before
		rulesAt := memo.Remember(func(state int) []int { return p.rulesAt(line, state) })
		for at := 0; at < len(line); {
			state := stack.uppermost()
			first := rulesAt(state)
			start := nextMatch(first, at)
			if start > at && !yield(p.span(at, start, stack, ""), stack) || start == len(line) {
				return
			}
			rule := p.states[state].Rules[first[start]]
			at = p.finders(state)[first[start]].End(line, start)
			span := p.span(start, at, stack, rule.Colour)
			stack = stack.after(rule)
			if !yield(span, stack) {
				return
			}
		}
	}
}

const none = -1

// rulesAt tells for each place of a line the first rule of a state whose pattern matches from there. All places are worked out at once, since whether a pattern matches from a place does not hang on how the line was gone through up to there.
func (p Painter) rulesAt(line string, state int) []int {
	first := slices.Repeat([]int{none}, len(line))
	for rule, finder := range slices.Backward(p.finders(state)) {
		for at := range finder.Starts(line, 0) {
			first[at] = rule
		}
	}
	return first
}

// nextMatch tells the least place, not ahead of at, that a rule matches from; or the line's end.
func nextMatch(first []int, at int) int {
	for at < len(first) && first[at] == none {
		at++
	}
	return at
}

func (p Painter) span(from, to int, stack Stack, colour string) api.Span {
	return api.Span{From: from, To: to, State: p.states[stack.uppermost()].Name, Depth: stack.depth, Colour: colour}
}
