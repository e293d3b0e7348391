package rules

import (
	"testing"

	"tint/api"
)

const code = "state code\npush text quote = \"\npush note mark = /\\*\ntoken number = [0-9]+\nstate text\npop quote = \"\nstate note\npop mark = \\*/\n"

type plainRule struct {
	kind   Kind
	opens  int
	colour string
	text   string // what the pattern matches whole
}

func TestReadBuildsStates(t *testing.T) {
	states, e, at := Read(code)
	if e != api.OK || at != 0 {
		t.Fatalf("P4: Read = %d, %d", e, at)
	}
	want := []struct {
		name  string
		rules []plainRule
	}{
		{"code", []plainRule{{Push, 1, "quote", `"`}, {Push, 2, "mark", "/*"}, {Token, 0, "number", "012"}}},
		{"text", []plainRule{{Pop, 0, "quote", `"`}}},
		{"note", []plainRule{{Pop, 0, "mark", "*/"}}},
	}
	if len(states) != len(want) {
		t.Fatalf("P4: %d states", len(states))
	}
	for i, w := range want {
		if states[i].Name != w.name || len(states[i].Rules) != len(w.rules) {
			t.Fatalf("P4: state %d is %q with %d rules", i, states[i].Name, len(states[i].Rules))
		}
		for j, r := range w.rules {
			got := states[i].Rules[j]
			from, to, ok := got.Pattern.Finder().Find(r.text, 0)
			if got.Kind != r.kind || got.Opens != r.opens || got.Colour != r.colour || !ok || from != 0 || to != len(r.text) {
				t.Errorf("P4: rule %d of state %d is %d, %d, %q, and matches %q from %d to %d", j, i, got.Kind, got.Opens, got.Colour, r.text, from, to)
			}
		}
	}
}

func TestReadPatternIsAllBehindTheSign(t *testing.T) {
	states, e, _ := Read("state a\ntoken x = a = b \n")
	if e != api.OK {
		t.Fatalf("P4: Read = %d", e)
	}
	find := states[0].Rules[0].Pattern.Finder().Find
	if _, to, ok := find("a = b ", 0); !ok || to != 6 {
		t.Errorf("P4: the pattern matches up to %d, %v", to, ok)
	}
	if _, _, ok := find("a = b", 0); ok {
		t.Error("P4: the last blank is no part of the pattern")
	}
}

func TestReadStatesWithoutRules(t *testing.T) {
	states, e, _ := Read("\nstate a\n\nstate b\npush a x = y\npush b x = y\nstate c\n")
	if e != api.OK || len(states) != 3 || len(states[0].Rules) != 0 || len(states[1].Rules) != 2 || len(states[2].Rules) != 0 {
		t.Fatalf("P4: Read = %v, %d", states, e)
	}
	if r := states[1].Rules; r[0].Opens != 0 || r[1].Opens != 1 {
		t.Errorf("P4: they open %d and %d", r[0].Opens, r[1].Opens)
	}
}

// Two answers share no memory: to spoil one leaves the other as it is.
func TestReadAnswersNewMemory(t *testing.T) {
	one, _, _ := Read(code)
	other, _, _ := Read(code)
	for i := range one {
		_ = append(one[i].Rules, Rule{Colour: "spoilt"})
		clear(one[i].Rules)
	}
	clear(one)
	if other[0].Name != "code" || other[0].Rules[2].Colour != "number" {
		t.Error("P2: two answers share their lists")
	}
	states, _, _ := Read("state a\ntoken x = a\ntoken y = b\ntoken z = c\nstate b\ntoken v = d\n")
	_ = append(states[0].Rules, Rule{Colour: "spoilt"})
	if states[1].Rules[0].Colour != "v" {
		t.Error("P2: two states share their rules")
	}
}
