package ground_test

import (
	"slices"
	"testing"

	"sextant/ground"
	"sextant/many"
	"sextant/model"
)

const hall = `module Hall
variable n in 0 .. 4
init n < 2
action Out == n = 0 and n' in {1, 2}
action End == n = 2 and n' = 3
invariant Near == n < 3
`

// is tells a test's fault if a set has other numbers.
func is(t *testing.T, what string, s many.Set, want ...int) {
	t.Helper()
	if got := slices.Collect(s.All()); !slices.Equal(got, want) {
		t.Errorf("%s: %v, want %v", what, got, want)
	}
}

func of(t *testing.T, text, invariant string) *ground.Ground {
	t.Helper()
	m, at, err := model.New(text)
	if err != nil {
		t.Fatalf("New: %v at %d", err, at)
	}
	i, ok := m.Invariant(invariant)
	if !ok {
		t.Fatalf("no invariant %s", invariant)
	}
	return ground.Of(m, i)
}

func TestGround(t *testing.T) {
	g := of(t, hall, "Near")
	is(t, "All", g.All, 0, 1, 2, 3, 4)
	is(t, "Initial", g.Initial, 0, 1)
	is(t, "Good", g.Good, 0, 1, 2)
	if len(g.Ones) != 3 {
		t.Fatalf("%d bits, want 3", len(g.Ones))
	}
	is(t, "the greatest bit", g.Ones[0], 4)
	is(t, "the next", g.Ones[1], 2, 3)
	is(t, "the least", g.Ones[2], 1, 3)
	for range 2 { // what is asked again is the same
		is(t, "Next(0)", *g.Next(0), 1, 2)
		is(t, "Next(1)", *g.Next(1))
		is(t, "Next(2)", *g.Next(2), 3)
	}
}

func TestGroundOfOneState(t *testing.T) {
	g := of(t, "module M action A == true invariant I == false", "I")
	is(t, "All", g.All, 0)
	is(t, "Initial", g.Initial, 0)
	is(t, "Good", g.Good)
	is(t, "Next(0)", *g.Next(0), 0)
	if len(g.Ones) != 0 {
		t.Errorf("%d bits, want none", len(g.Ones))
	}
}
