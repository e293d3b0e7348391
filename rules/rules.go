// Package rules: grammars, their states and rules.
package rules

import (
	"slices"
	"strings"

	"tint/api"
	"tint/search"
)

// Kind tells what a rule does to the states that are open.
type Kind int

const (
	Token Kind = iota // nothing
	Push              // it opens one
	Pop               // it closes the uppermost
)

// A Rule of a state.
type Rule struct {
	Kind    Kind
	Opens   int // of a Push: the state, counted from 0
	Colour  string
	Pattern search.Pattern
}

// A State and its rules, in their order.
type State struct {
	Name  string
	Rules []Rule
}

// Read reads a grammar: its states, the start first; or an error and its place (P4).
func Read(text string) ([]State, api.Errno, int) {
	if len(text) > api.MaxGrammar {
		return nil, api.ErrLong, 0
	}
	lines, at, ok := readLines(text)
	if !ok {
		return nil, api.ErrForm, at
	}
	if errno, at := firstFault(lines); errno != api.OK {
		return nil, errno, at
	}
	states := build(lines)
	if len(states) == 0 {
		return nil, api.ErrMany, len(text)
	}
	return states, api.OK, 0
}

// build makes the states of lines without a fault.
func build(lines []line) []State {
	var states []State
	for _, l := range lines {
		if l.kind == stateLine {
			states = append(states, State{Name: strings.Clone(l.state)})
		}
	}
	current := -1
	for _, l := range lines {
		switch l.kind {
		case stateLine:
			current++
		case ruleLine:
			states[current].Rules = append(states[current].Rules, makeRule(l, states))
		}
	}
	return states
}

func makeRule(l line, states []State) Rule {
	r := Rule{Kind: l.does, Colour: strings.Clone(l.colour), Pattern: l.pattern}
	if l.does == Push {
		r.Opens = slices.IndexFunc(states, func(s State) bool { return s.Name == l.state })
	}
	return r
}
