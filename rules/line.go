package rules

import (
	"strings"

	"tint/api"
	"tint/search"
)

// lineKind tells what stands in a line.
type lineKind int

const (
	blank lineKind = iota
	stateLine
	ruleLine
)

// A line of a grammar. Its pattern is read, but what is wrong with it is only kept: other faults are told ahead of that.
type line struct {
	at      int // where it begins
	kind    lineKind
	state   string // that it begins, or that its rule opens
	does    Kind
	colour  string
	pattern search.Pattern
	fault   api.Errno
}

// readLines reads all lines, or tells where the first one begins that must not stand there.
func readLines(text string) ([]line, int, bool) {
	var lines []line
	started := false
	for at := 0; at < len(text); {
		body, _, ended := strings.Cut(text[at:], "\n")
		l, ok := readLine(body)
		started = started || l.kind == stateLine
		if !ok || !ended || l.kind == ruleLine && !started {
			return nil, at, false
		}
		l.at = at
		lines = append(lines, l)
		at += len(body) + 1
	}
	return lines, 0, true
}

// readLine reads a line without its end.
func readLine(text string) (line, bool) {
	if text == "" {
		return line{kind: blank}, true
	}
	word, rest, _ := strings.Cut(text, " ")
	switch word {
	case "state":
		return line{kind: stateLine, state: rest}, isName(rest)
	case "token":
		return readRule(Token, rest)
	case "pop":
		return readRule(Pop, rest)
	case "push":
		state, rest, _ := strings.Cut(rest, " ")
		l, ok := readRule(Push, rest)
		l.state = state
		return l, ok && isName(state)
	}
	return line{}, false
}

// readRule reads a rule from its colour on. A name has no blank, so the first " = " is the one behind it.
func readRule(does Kind, text string) (line, bool) {
	colour, source, ok := strings.Cut(text, " = ")
	if !ok || !isName(colour) {
		return line{}, false
	}
	pattern, fault := search.Parse(source)
	return line{kind: ruleLine, does: does, colour: colour, pattern: pattern, fault: fault}, true
}

func isName(text string) bool {
	for _, b := range []byte(text) {
		if b < 'a' || b > 'z' {
			return false
		}
	}
	return 1 <= len(text) && len(text) <= api.MaxName
}
