package tint

import (
	"math"
	"strings"
	"testing"

	"tint/api"
)

func TestMatchFinds(t *testing.T) {
	for _, c := range []struct {
		pattern, text  string
		from, low, top int
	}{
		{"ab*", "xabbab", 0, 1, 4}, {"ab*", "xabbab", 1, 1, 4}, {"ab*", "xabbab", 2, 4, 6}, {"ab*", "xabbab", 4, 4, 6},
		{"a|ab", "ab", 0, 0, 2}, {"ab|a", "ab", 0, 0, 2}, {"a|ab|abc", "xabcabc", 0, 1, 4}, {"[^a-c]+", "abdd", 0, 2, 4},
		// The least place wins against a match that ends first, or that is longer.
		{"aaab|b", "aaab", 0, 0, 4}, {"aaax|b+", "aaabbb", 0, 3, 6}, {"a|bbb", "abbb", 0, 0, 1},
		// Empty matches count.
		{"x*", "ab", 1, 1, 1}, {"x*", "ab", 2, 2, 2}, {"", "ab", 0, 0, 0}, {"", "", 0, 0, 0}, {"a?", "ba", 0, 0, 0}, {"a?", "ba", 1, 1, 2},
		// What is ahead of from is no part of a match.
		{"ab", "abab", 1, 2, 4}, {"b", "ab", 1, 1, 2},
		// Bytes, not runes; a byte 10 is one like others.
		{".", "\xff\xfe", 1, 1, 2}, {"..", "é", 0, 0, 2}, {".+", "a\nb\x00", 0, 0, 4}, {"[^ -~]", "a\nb", 0, 1, 2},
		{strings.Repeat("a", 60), "b" + strings.Repeat("a", 61), 0, 1, 61}, {strings.Repeat("a?", 30), strings.Repeat("a", 40), 0, 0, 30},
	} {
		low, top, ok, e := Match(c.pattern, c.text, c.from)
		if low != c.low || top != c.top || !ok || e != api.OK {
			t.Errorf("P3: Match(%q, %q, %d) = %d, %d, %v, %d, want %d, %d", c.pattern, c.text, c.from, low, top, ok, e, c.low, c.top)
		}
	}
}

func TestMatchFindsNone(t *testing.T) {
	for _, c := range []struct {
		pattern, text string
		from          int
	}{
		{"ab*", "xabbab", 5}, {"ab*", "xabbab", 6}, {"a", "", 0}, {"a", "aa", 2}, {"ab", "ab", 1}, {".", "", 0}, {"[^a]", "aa", 0}, {"(a|b)*c", "abab", 0},
		{strings.Repeat("a", 60), strings.Repeat("a", 59), 0},
	} {
		low, top, ok, e := Match(c.pattern, c.text, c.from)
		if low != 0 || top != 0 || ok || e != api.OK {
			t.Errorf("P3: Match(%q, %q, %d) = %d, %d, %v, %d, want none", c.pattern, c.text, c.from, low, top, ok, e)
		}
	}
}

func TestMatchErrors(t *testing.T) {
	long := strings.Repeat("a", api.MaxPattern+1)
	for _, c := range []struct {
		pattern, text string
		from          int
		e             api.Errno
	}{
		{long, "a", 0, api.ErrLong}, {long + "(", "a", -1, api.ErrLong}, {long, "a", 2, api.ErrLong},
		{"a**", "a", 0, api.ErrPattern}, {"a**", "a", -1, api.ErrPattern}, {"[", "a", 9, api.ErrPattern}, {strings.Repeat("(", 60), "a", 0, api.ErrPattern},
		{"a", "a", -1, api.ErrRange}, {"a", "a", 2, api.ErrRange}, {"", "", 1, api.ErrRange}, {"", "", -1, api.ErrRange}, {"x", "a", math.MaxInt, api.ErrRange}, {"x*", "a", math.MinInt, api.ErrRange},
	} {
		low, top, ok, e := Match(c.pattern, c.text, c.from)
		if low != 0 || top != 0 || ok || e != c.e {
			t.Errorf("P1, P3: Match(%q, %q, %d) = %d, %d, %v, %d, want error %d", c.pattern, c.text, c.from, low, top, ok, e, c.e)
		}
	}
}

// Patterns that are slow where a matcher tries one way after another, or keeps all it has seen, or begins anew at each place.
func TestMatchEnds(t *testing.T) {
	many := strings.Repeat("a", 200000)
	for _, c := range []struct {
		pattern, text string
		ok            bool
	}{
		{"(a*)*b", many, false}, {"(a|a)*b", many, false}, {"(((((a+)+)+)+)+)+b", many, false}, {".*b", many, false}, {"a.*b|a", many, true},
		{"(" + strings.Repeat("a?", 28) + ")*b", many, false},
		{"(a|b)*a" + strings.Repeat(".", 53), strings.Repeat("aabab", 20000), true},
		{strings.Repeat("(", 19) + "a" + strings.Repeat(")+", 19), many, true},
	} {
		if _, _, ok, e := Match(c.pattern, c.text, 0); ok != c.ok || e != api.OK {
			t.Errorf("P1: Match(%q, ..) = %v, %d, want %v", c.pattern, ok, e, c.ok)
		}
	}
}

const code = "state code\npush text quote = \"\npush note mark = /\\*\ntoken number = [0-9]+\nstate text\npop quote = \"\nstate note\npop mark = \\*/\n"

// letters makes a name of n letters.
func letters(n int) string { return strings.Repeat("n", n) }

// states makes n states, each of 8 bytes.
func states(n int) string {
	out := ""
	for i := range n {
		out += "state " + string(rune('a'+i)) + "\n"
	}
	return out
}

// ofSize makes a grammar of one state with so many bytes.
func ofSize(n int) string { return "state a\n" + strings.Repeat("\n", n-8) }

func TestLoadAccepts(t *testing.T) {
	for i, text := range []string{
		code, "state a\n", "\n\nstate a\n\n", "state state\nstate token\npush token push = pop\n",
		ofSize(api.MaxGrammar), states(api.MaxStates), "state a\n" + strings.Repeat("pop x = a\n", api.MaxRules),
		states(12) + strings.Repeat("token x = a\n", 40),
		"state " + letters(12) + "\npush " + letters(12) + " " + letters(12) + " = " + strings.Repeat("p", 60) + "\n",
		"state a\npush b x = y\nstate b\n", "state a\npush a x = y\n", "state a\ntoken x =  \n", "state a\ntoken x = = \n", "state a\ntoken x = x\ntoken x = x\n",
	} {
		if g, e, at := Load(text); g == nil || e != api.OK || at != 0 {
			t.Errorf("P4: case %d: Load(%.60q) = %v, %d, %d", i, text, g, e, at)
		}
	}
}

type loadFault struct {
	text string
	e    api.Errno
	at   int
}

func checkFaults(t *testing.T, faults []loadFault) {
	t.Helper()
	for i, c := range faults {
		if g, e, at := Load(c.text); g != nil || e != c.e || at != c.at {
			t.Errorf("P1, P4: case %d: Load(%.60q) = %v, %d, %d, want %d, %d", i, c.text, g, e, at, c.e, c.at)
		}
	}
}

func TestLoadForm(t *testing.T) {
	for _, bad := range []string{
		"state", "state ", "state  b", "state b ", " state b", "state b c", "state B", "state b1", "state é", "state " + letters(13), "state = b", "State b", "state\tb", "state b\r", "states b",
		"token", "token ", "token x", "token x ", "token x =", "token x=a", "token x= a", "token x =a", "token x  = a", "token  x = a", "token = a", "token  = a", "token X = a", "token x y = a", "token " + letters(13) + " = a", " token x = a", "tokenx = a",
		"push a = y", "push = y", "push a x", "push a x =", "push a  x = y", "push  a x = y", "push A x = y", "push a X = y", "push a x y = z", "push " + letters(13) + " x = y", "push a " + letters(13) + " = y", "push  = y",
		"pop", "pop x", "pop = y", "pop x =", "pop a x = y", "pop X = y", "pop " + letters(13) + " = y",
		" ", "\x00", "\r", "rule x = y", "#",
	} {
		if g, e, at := Load("state a\n\n" + bad + "\nstate b\n"); g != nil || e != api.ErrForm || at != 9 {
			t.Errorf("P4: Load of a line %q = %v, %d, %d, want ErrForm, 9", bad, g, e, at)
		}
	}
	checkFaults(t, []loadFault{
		{"state a", api.ErrForm, 0}, {"state a\nstate b", api.ErrForm, 8}, {"state a\ntoken x = a", api.ErrForm, 8}, {"state a\n\n ", api.ErrForm, 9},
		{"token x = a\n", api.ErrForm, 0}, {"\npop x = a\nstate a\n", api.ErrForm, 1}, {"push a x = y\nstate a\n", api.ErrForm, 0},
		{"\ntoken x = a\nwhat\n", api.ErrForm, 1}, {"what\ntoken x = a\n", api.ErrForm, 0},
	})
}

func TestLoadOtherFaults(t *testing.T) {
	rule := "token x = a\n"
	long := strings.Repeat("a", api.MaxPattern+1)
	checkFaults(t, []loadFault{
		{ofSize(api.MaxGrammar + 1), api.ErrLong, 0},
		{"state a\nstate a\n", api.ErrTwice, 8}, {"state a\nstate b\ntoken x = y\nstate b\nstate a\n", api.ErrTwice, 28},
		{states(13), api.ErrMany, 96}, {states(14), api.ErrMany, 96}, {"state a\n" + strings.Repeat(rule, 41), api.ErrMany, 488}, {states(2) + strings.Repeat(rule, 20) + "state z\n" + strings.Repeat(rule, 22), api.ErrMany, 504},
		{"", api.ErrMany, 0}, {"\n", api.ErrMany, 1}, {"\n\n\n", api.ErrMany, 3}, {strings.Repeat("\n", 2000), api.ErrMany, 2000},
		{"state a\npush b x = y\n", api.ErrUnknown, 8}, {"state a\npush a x = y\npush aa x = y\npush c x = y\n", api.ErrUnknown, 21},
		{"state a\ntoken x = " + long + "\n", api.ErrLong, 8}, {"state a\n" + rule + "pop x = " + long + "\npop x = " + long + "\n", api.ErrLong, 20},
		{"state a\ntoken x = (\n", api.ErrPattern, 8}, {"state a\n" + rule + "push a x = a**\npop x = *\n", api.ErrPattern, 20}, {"state a\ntoken x = \x80\n", api.ErrPattern, 8},
		{"state a\ntoken x = \n", api.ErrEmpty, 8}, {"state a\ntoken x = a*\n", api.ErrEmpty, 8}, {"state a\n" + rule + "push a x = (a|b?)c*\npop x = d?\n", api.ErrEmpty, 20},
	})
}

// Of two faults the one that is named first is told, wherever they stand.
func TestLoadOrderOfFaults(t *testing.T) {
	long := strings.Repeat("a", api.MaxPattern+1)
	rest := "push z x = y\ntoken x = " + long + "\ntoken x = (\ntoken x = a*\n"
	full := states(11) + strings.Repeat("token x = a\n", 40)
	checkFaults(t, []loadFault{
		{strings.Repeat("what\n", 401), api.ErrLong, 0}, {strings.Repeat("a", 2001), api.ErrLong, 0},
		{"state a\nstate a\n" + rest + "what\n", api.ErrForm, 16 + len(rest)}, {states(13) + "state", api.ErrForm, 104}, {"token x = (\n", api.ErrForm, 0}, {"state a\npush z x = y", api.ErrForm, 8},
		{"state a\n" + rest + "state a\n", api.ErrTwice, 8 + len(rest)}, {states(13) + "state a\n", api.ErrTwice, 104}, {full + "token x = a\nstate a\n", api.ErrTwice, 580},
		{full + "push z x = (\n", api.ErrMany, 568}, {full + "token x = a\nstate y\nstate z\n", api.ErrMany, 568}, {full + "state y\nstate z\ntoken x = a\n", api.ErrMany, 576}, {"state a\npush z x = y\n" + states(13)[8:], api.ErrMany, 8 + 13 + 88},
		{"state a\ntoken x = a*\ntoken x = (\ntoken x = " + long + "\npush z x = y\n", api.ErrUnknown, 8 + 13 + 12 + 72}, {"state a\npush z x = (\n", api.ErrUnknown, 8},
		{"state a\ntoken x = a*\ntoken x = (\ntoken x = " + long + "\n", api.ErrLong, 8 + 13 + 12}, {"state a\ntoken x = (" + long + "\n", api.ErrLong, 8},
		{"state a\ntoken x = a*\ntoken x = (\n", api.ErrPattern, 8 + 13}, {"state a\ntoken x = a**\n", api.ErrPattern, 8},
	})
}

func TestLoadAnswersAnew(t *testing.T) {
	one, _, _ := Load(code)
	other, _, _ := Load(code)
	if one == nil || one == other {
		t.Error("P2: two Grammars are one")
	}
	if _, e, _ := Load("state a\nstate a\n"); e != api.ErrTwice {
		t.Errorf("P1: Load = %d", e)
	}
	if again, e, _ := Load("state a\n"); again == nil || e != api.OK {
		t.Errorf("P1: a fault stays behind: %d", e)
	}
}

// All short texts, and all that a grammar becomes when a byte of it is another one or is left out, are answered without a panic, and with a place that is one.
func TestLoadNeverPanics(t *testing.T) {
	try := func(text string) {
		g, e, at := Load(text)
		if at < 0 || at > len(text) || (g == nil) != (e != api.OK) || e == api.OK && at != 0 {
			t.Errorf("P1: Load(%q) = %v, %d, %d", text, g, e, at)
		}
	}
	for i := range len(code) + 1 {
		try(code[:i])
		for _, b := range []string{"", "\n", " ", "=", "(", "*", "[", "\\", "z", "\x00", "\xff"} {
			if i < len(code) {
				try(code[:i] + b + code[i+1:])
			}
			try(code[:i] + b + code[i:])
		}
	}
}
