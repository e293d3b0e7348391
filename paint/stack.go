package paint

import (
	"tint/api"
	"tint/rules"
)

// A Stack is the states that are open, by their places in the grammar, the uppermost last. It is a plain value: two are == where the same states are open.
type Stack struct {
	open  [api.MaxDepth]int
	depth int
}

// Bottom has the start alone open.
func Bottom() Stack { return Stack{depth: 1} }

// Names tells the names of the states that are open.
func (s Stack) Names(states []rules.State) []string {
	var names []string
	for _, state := range s.open[:s.depth] {
		names = append(names, states[state].Name)
	}
	return names
}

func (s Stack) uppermost() int { return s.open[s.depth-1] }

// after is the stack behind a match of a rule.
func (s Stack) after(r rules.Rule) Stack {
	switch {
	case r.Kind == rules.Push && s.depth < api.MaxDepth:
		s.open[s.depth] = r.Opens
		s.depth++
	case r.Kind == rules.Pop && s.depth > 1:
		s.depth--
		s.open[s.depth] = 0 // else == would hold what is gone against what never was
	}
	return s
}
