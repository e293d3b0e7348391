package rules

import (
	"slices"

	"tint/api"
)

// A check tells of one line after another, in their order, whether it has a fault.
type check struct {
	errno api.Errno
	bad   func(l line) bool
}

// firstFault tells the first check's fault that there is, and the place of its first line.
func firstFault(lines []line) (api.Errno, int) {
	checks := []check{
		{api.ErrTwice, beganAlready()},
		{api.ErrMany, tooMany()},
		{api.ErrUnknown, opensNone(lines)},
		{api.ErrLong, hasFault(api.ErrLong)},
		{api.ErrPattern, hasFault(api.ErrPattern)},
		{api.ErrEmpty, matchesEmpty},
	}
	for _, c := range checks {
		if i := slices.IndexFunc(lines, c.bad); i >= 0 {
			return c.errno, lines[i].at
		}
	}
	return api.OK, 0
}

func beganAlready() func(line) bool {
	var names []string
	return func(l line) bool {
		if l.kind != stateLine {
			return false
		}
		bad := slices.Contains(names, l.state)
		names = append(names, l.state)
		return bad
	}
}

func tooMany() func(line) bool {
	states, rules := 0, 0
	return func(l line) bool {
		switch l.kind {
		case stateLine:
			states++
		case ruleLine:
			rules++
		}
		return states > api.MaxStates || rules > api.MaxRules
	}
}

func opensNone(lines []line) func(line) bool {
	return func(l line) bool {
		return l.kind == ruleLine && l.does == Push && !slices.ContainsFunc(lines, begins(l.state))
	}
}

func begins(name string) func(line) bool {
	return func(l line) bool { return l.kind == stateLine && l.state == name }
}

func hasFault(errno api.Errno) func(line) bool {
	return func(l line) bool { return l.fault == errno }
}

func matchesEmpty(l line) bool {
	return l.kind == ruleLine && l.pattern.MatchesEmpty()
}
