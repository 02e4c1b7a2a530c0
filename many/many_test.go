package many_test

import (
	"slices"
	"testing"

	"sextant/api"
	"sextant/many"
)

// is tells a test's fault if a set has other numbers.
func is(t *testing.T, what string, s many.Set, want ...int) {
	t.Helper()
	if got := slices.Collect(s.All()); !slices.Equal(got, want) {
		t.Errorf("%s: %v, want %v", what, got, want)
	}
}

const last = api.MaxSpace - 1

func TestSet(t *testing.T) {
	s, u := many.Of(last, 0, 63, 64, 63), many.Of(64, 65)
	is(t, "Of", s, 0, 63, 64, last)
	is(t, "Of nothing", many.Of())
	is(t, "Or", s.Or(&u), 0, 63, 64, 65, last)
	is(t, "And", s.And(&u), 64)
	is(t, "Less", s.Less(&u), 0, 63, last)
	is(t, "afterwards", s, 0, 63, 64, last)
	is(t, "and the other", u, 64, 65)
	for n, want := range map[int]int{0: 1, 1: 0, 62: 0, 63: 1, 64: 1, 65: 0, last - 1: 0, last: 1} {
		if s.Has(n) != (want == 1) {
			t.Errorf("Has(%d): %v", n, s.Has(n))
		}
	}
}

func TestDrop(t *testing.T) {
	s := many.Of(0, 63, 64, last)
	for _, n := range []int{63, 1, last, 63} {
		s.Drop(n)
	}
	is(t, "Drop", s, 0, 64)
}

func TestSetsCompared(t *testing.T) {
	s, u, zero, empty := many.Of(1, last), many.Of(last), many.Of(64), many.Set{}
	rows := []struct {
		what      string
		got, want bool
	}{
		{"within", u.Within(&s), true},
		{"not within", s.Within(&u), false},
		{"nothing is within all", empty.Within(&u), true},
		{"within itself", s.Within(&s), true},
		{"the first of a word is not within", zero.Within(&u), false},
		{"nor does it meet", zero.Meets(&s), false},
		{"the first of a word meets", zero.Meets(&zero), true},
		{"meets", s.Meets(&u), true},
		{"does not meet", s.Meets(&empty), false},
		{"empty", empty.IsEmpty(), true},
		{"not empty", u.IsEmpty(), false},
		{"the same", s == many.Of(last, 1), true},
		{"not the same", s == u, false},
	}
	for _, r := range rows {
		if r.got != r.want {
			t.Errorf("%s: %v", r.what, r.got)
		}
	}
}

func TestAllStops(t *testing.T) {
	for n := range many.Of(7, 70, 700).All() {
		if n == 70 {
			return
		}
		if n > 70 {
			t.Error("it goes on")
		}
	}
}

func TestAllWhilePutting(t *testing.T) {
	s := many.Of(1)
	for n := range s.All() {
		s.Put(n + 1)
	}
	is(t, "put", s, 1, 2)
}

func TestParts(t *testing.T) {
	parts := many.Of(0, 7, 8, 100, last).Parts(8)
	if len(parts) != 4 {
		t.Fatalf("%d parts, want 4", len(parts))
	}
	is(t, "first", parts[0], 0, 7)
	is(t, "second", parts[1], 8)
	is(t, "third", parts[2], 100)
	is(t, "fourth", parts[3], last)
	if parts := (many.Set{}).Parts(8); len(parts) != 0 {
		t.Errorf("of nothing: %d parts", len(parts))
	}
}
