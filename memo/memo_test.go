package memo

import "testing"

// A function that asked again for what it knows would remember nothing.
func TestRememberAsksOnce(t *testing.T) {
	type pair struct{ a, b int }
	asked := 0
	f := Remember(func(p pair) int {
		asked++
		return p.a - p.b
	})
	for range 3 {
		if f(pair{1, 2}) != -1 || f(pair{2, 1}) != 1 || f(pair{0, 0}) != 0 {
			t.Error("Remember answers otherwise than it was told")
		}
	}
	if asked != 3 {
		t.Errorf("asked %d times for three keys", asked)
	}
}

func TestRememberKeepsApart(t *testing.T) {
	one := Remember(func(n int) int { return n })
	other := Remember(func(n int) int { return -n })
	if one(1) != 1 || other(1) != -1 || one(1) != 1 {
		t.Error("two functions remember in one place")
	}
}
