package paint

import (
	"math/rand/v2"
	"regexp"
	"slices"
	"strings"
	"testing"

	"tint/api"
	"tint/rules"
)

// plainRule is a rule as a grammar has it.
type plainRule struct{ kind, opens, colour, pattern string }

type plainState struct {
	name  string
	rules []plainRule
}

func (r plainRule) line() string {
	words := []string{r.kind, r.opens, r.colour, "= " + r.pattern + "\n"}
	return strings.Join(slices.DeleteFunc(words, func(w string) bool { return w == "" }), " ")
}

func read(t *testing.T, grammar []plainState) []rules.State {
	t.Helper()
	text := ""
	for _, s := range grammar {
		text += "state " + s.name + "\n"
		for _, r := range s.rules {
			text += r.line()
		}
	}
	states, e, at := rules.Read(text)
	if e != api.OK {
		t.Fatalf("P4: Read(%q) = %d, %d", text, e, at)
	}
	return states
}

// step is a span, and the names of the stack behind it.
type step struct {
	span  api.Span
	stack string
}

// plainSteps goes through a line as the document says it, place by place, with the library's patterns.
func plainSteps(grammar []plainState, line string, stack []string) []step {
	var steps []step
	at := 0
	tell := func(to int, colour string, then []string) {
		if to > at {
			steps = append(steps, step{api.Span{From: at, To: to, State: stack[len(stack)-1], Depth: len(stack), Colour: colour}, strings.Join(then, " ")})
		}
		at, stack = to, then
	}
	for {
		start, end := len(line), len(line)
		var rule plainRule
		i := slices.IndexFunc(grammar, func(s plainState) bool { return s.name == stack[len(stack)-1] })
		for _, r := range grammar[i].rules {
			want := regexp.MustCompile("(?s:" + r.pattern + ")")
			want.Longest()
			if m := want.FindStringIndex(line[at:]); m != nil && at+m[0] < start {
				start, end, rule = at+m[0], at+m[1], r
			}
		}
		tell(start, "", stack)
		if start == len(line) {
			return steps
		}
		then := slices.Clone(stack)
		if rule.kind == "push" && len(stack) < api.MaxDepth {
			then = append(then, rule.opens)
		}
		if rule.kind == "pop" && len(stack) > 1 {
			then = then[:len(then)-1]
		}
		tell(end, rule.colour, then)
	}
}

func steps(p Painter, line string, stack Stack) []step {
	var out []step
	for span, after := range p.Spans(line, stack) {
		out = append(out, step{span, strings.Join(after.Names(p.states), " ")})
	}
	return out
}

func randomGrammar(r *rand.Rand) []plainState {
	patterns := []string{"a", "b", "c", "ab", "a+", "b|ba", "(a|ab)c?", "[ab]c", "c.", ".b", "[^a]", "(ab)+", "a.*c", "\\*", "aaaa", "[b-c]+", "c|cab*", "bb*a", ".", "\\*.*\\*", "(a|b)*c"}
	kinds := []string{"token", "push", "push", "pop"}
	grammar := make([]plainState, 1+r.IntN(4))
	for i := range grammar {
		grammar[i].name = string(rune('p' + i))
	}
	for i := range grammar {
		for j := range r.IntN(5) {
			rule := plainRule{kinds[r.IntN(4)], "", string(rune('a' + j)), patterns[r.IntN(len(patterns))]}
			if rule.kind == "push" {
				rule.opens = grammar[r.IntN(len(grammar))].name
			}
			grammar[i].rules = append(grammar[i].rules, rule)
		}
	}
	return grammar
}

func randomLine(r *rand.Rand) string {
	out := make([]byte, r.IntN(24))
	for i := range out {
		out[i] = "aaabbbccc*\xff"[r.IntN(11)]
	}
	return string(out)
}

// Lines behind one another, so that stacks of all depths come up, by one Painter.
func TestSpansAsTheDocumentSaysThem(t *testing.T) {
	r := rand.New(rand.NewPCG(7, 8))
	deepest := 0
	for range 1200 {
		grammar := randomGrammar(r)
		painter := New(read(t, grammar))
		stack, names := Bottom(), []string{"p"}
		for range 5 {
			line := randomLine(r)
			want := plainSteps(grammar, line, names)
			if got := steps(painter, line, stack); !slices.Equal(got, want) {
				t.Fatalf("P6: %q in %v, with %v open:\n%v\nwant\n%v", line, grammar, names, got, want)
			}
			for _, after := range painter.Spans(line, stack) {
				stack = after
			}
			if len(want) > 0 {
				names = strings.Split(want[len(want)-1].stack, " ")
			}
			deepest = max(deepest, len(names))
		}
	}
	if deepest != api.MaxDepth {
		t.Errorf("no more than %d states were open", deepest)
	}
}

var small = []plainState{
	{"p", []plainRule{{"push", "q", "x", "a"}, {"token", "", "y", "b+"}}},
	{"q", []plainRule{{"pop", "", "z", "b"}}},
}

func TestSpansLeftEarly(t *testing.T) {
	painter := New(read(t, small))
	const line = " b ac"
	all := steps(painter, line, Bottom())
	if len(all) != 5 {
		t.Fatalf("P6: %v", all)
	}
	for most := 1; most <= len(all); most++ {
		var got []step
		for span, after := range painter.Spans(line, Bottom()) {
			got = append(got, step{span, strings.Join(after.Names(painter.states), " ")})
			if len(got) == most {
				break
			}
		}
		if !slices.Equal(got, all[:most]) {
			t.Errorf("left after %d: %v, want %v", most, got, all[:most])
		}
	}
}

// What was gone through once begins where it began.
func TestSpansAgain(t *testing.T) {
	painter := New(read(t, small))
	spans := painter.Spans("aab a", Bottom())
	var counts []int
	for range 3 {
		n := 0
		for span, after := range spans {
			n += span.To * after.depth
		}
		counts = append(counts, n)
	}
	if counts[0] == 0 || counts[1] != counts[0] || counts[2] != counts[0] {
		t.Errorf("gone through again: %v", counts)
	}
}

// Stacks are the same where the same states are open, however they came to be.
func TestStacksCompared(t *testing.T) {
	push := func(n int) rules.Rule { return rules.Rule{Kind: rules.Push, Opens: n} }
	pop, token := rules.Rule{Kind: rules.Pop}, rules.Rule{}
	s := Bottom()
	if s.after(pop) != s || s.after(token) != s || s.after(push(1)).after(pop) != s || s.after(push(1)).after(token) != s.after(push(1)) {
		t.Error("P6: stacks with the same states are not the same")
	}
	if s.after(push(0)) == s || s.after(push(1)) == s.after(push(2)) || s.after(push(1)).after(push(2)).after(pop) != s.after(push(1)) {
		t.Error("P6: stacks with other states are the same")
	}
	full := s
	for range api.MaxDepth - 1 {
		full = full.after(push(1))
	}
	if full.depth != api.MaxDepth || full.after(push(2)) != full || full.after(push(1)) != full || full.after(pop).after(push(1)) != full {
		t.Errorf("P6: %d states open", full.depth)
	}
}
