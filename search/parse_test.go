package search

import (
	"regexp"
	"strings"
	"testing"

	"tint/api"
)

const oneSource = `(?:[^\\()\[\]|*+?.^\-\x00-\x1f\x7f-\x{10ffff}]|\\[\\()\[\]|*+?.^\-])`

var (
	atomForm  = regexp.MustCompile(`^(?:\[\^?(?:` + oneSource + `(?:-` + oneSource + `)?)+\]|\.|` + oneSource + `)`)
	rangeForm = regexp.MustCompile(`^(` + oneSource + `)-(` + oneSource + `)`)
	oneForm   = regexp.MustCompile(`^` + oneSource)
	groupForm = regexp.MustCompile(`\((?:A[*+?]?|\|)*\)`)
	wholeForm = regexp.MustCompile(`^(?:A[*+?]?|\|)*$`)
)

// isPattern tells it in another way than the parser: atoms become A, then groups of them do, from the inside out.
func isPattern(text string) bool {
	var flat strings.Builder
	for text != "" {
		if atom := atomForm.FindString(text); atom != "" {
			if !rangesRise(atom) {
				return false
			}
			flat.WriteByte('A')
			text = text[len(atom):]
			continue
		}
		if !strings.ContainsAny(text[:1], "()|*+?") {
			return false
		}
		flat.WriteByte(text[0])
		text = text[1:]
	}
	s := flat.String()
	for groupForm.MatchString(s) {
		s = groupForm.ReplaceAllString(s, "A")
	}
	return wholeForm.MatchString(s)
}

func rangesRise(atom string) bool {
	if len(atom) == 1 || atom[0] != '[' {
		return true
	}
	rest := strings.TrimPrefix(atom[1:len(atom)-1], "^")
	for rest != "" {
		if m := rangeForm.FindStringSubmatch(rest); m != nil {
			if m[1][len(m[1])-1] > m[2][len(m[2])-1] {
				return false
			}
			rest = rest[len(m[0]):]
			continue
		}
		rest = rest[len(oneForm.FindString(rest)):]
	}
	return true
}

func TestParseAcceptsPatternsOnly(t *testing.T) {
	const alphabet = "ab|*+?().[]^-\\\n"
	var try func(text string, more int)
	try = func(text string, more int) {
		_, e := Parse(text)
		if want := isPattern(text); (e == api.OK) != want || e != api.OK && e != api.ErrPattern {
			t.Errorf("P3: Parse(%q) = %d, a pattern: %v", text, e, want)
		}
		if more == 0 {
			return
		}
		for i := range len(alphabet) {
			try(text+alphabet[i:i+1], more-1)
		}
	}
	try("", 4)
	for _, inner := range []string{"a-b", "b-a", "a-a", "^a-b", "^b-a", "ab-", "-ab", "a-b-c", "a-bc-d", "a-bd-c", "\\--\\^", "\\^-\\-", "^^", "^\\^", "\\]", "]", "^", ""} {
		for _, text := range []string{"[" + inner + "]", "[" + inner, "([" + inner + "])*", "a[" + inner + "]b"} {
			_, e := Parse(text)
			if want := isPattern(text); (e == api.OK) != want {
				t.Errorf("P3: Parse(%q) = %d, a pattern: %v", text, e, want)
			}
		}
	}
}

func TestParseEachByte(t *testing.T) {
	for i := range 256 {
		b := string([]byte{byte(i)})
		sign := strings.Contains(`\()[]|*+?.^-`, b)
		plain := i >= 32 && i <= 126 && !sign
		for _, c := range []struct {
			text string
			ok   bool
		}{
			{b, plain || b == "." || b == "|"}, {"\\" + b, sign}, {"[" + b + "]", plain}, {"[\\" + b + "]", sign},
		} {
			if _, e := Parse(c.text); (e == api.OK) != c.ok {
				t.Errorf("P3: Parse(%q) = %d, a pattern: %v", c.text, e, c.ok)
			}
		}
	}
}

func TestParseLength(t *testing.T) {
	for _, c := range []struct {
		text string
		e    api.Errno
	}{
		{strings.Repeat("a", 60), api.OK}, {strings.Repeat("a", 61), api.ErrLong},
		{strings.Repeat("(", 60), api.ErrPattern}, {strings.Repeat("(", 61), api.ErrLong},
		{strings.Repeat("(", 30) + strings.Repeat(")", 30), api.OK},
		{strings.Repeat("(", 29) + "a" + strings.Repeat(")", 30), api.ErrPattern},
		{strings.Repeat("|", 60), api.OK}, {strings.Repeat("\\", 60), api.OK}, {strings.Repeat("\\", 59), api.ErrPattern},
	} {
		if _, e := Parse(c.text); e != c.e {
			t.Errorf("P3: Parse(%q) = %d, want %d", c.text, e, c.e)
		}
	}
}

func TestMatchesEmpty(t *testing.T) {
	for text, want := range map[string]bool{
		"": true, "()": true, "|": true, "a|": true, "|a": true, "a": false, ".": false, "[^a]": false,
		"a*": true, "a+": false, "a?": true, "(a*)+": true, "(a|b*)+": true, "(a+)?": true,
		"a*b*": true, "a*b": false, "ab*": false, "a|b": false, "a|b*": true, "(a|)(|b)": true,
	} {
		p, e := Parse(text)
		if e != api.OK || p.MatchesEmpty() != want {
			t.Errorf("P4: %q matches the empty text: want %v", text, want)
		}
	}
}
