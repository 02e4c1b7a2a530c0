package few_test

import (
	"slices"
	"testing"

	"sextant/few"
)

func TestSet(t *testing.T) {
	s := few.Of(0) | few.Of(5) | few.Of(63)
	for n := range 64 {
		if s.Has(n) != (n == 0 || n == 5 || n == 63) {
			t.Errorf("Has(%d): %v", n, s.Has(n))
		}
	}
	if got := s.List(); !slices.Equal(got, []int{0, 5, 63}) {
		t.Errorf("List: %v", got)
	}
	if got := few.Set(0).List(); len(got) != 0 {
		t.Errorf("List of none: %v", got)
	}
}

func TestBelow(t *testing.T) {
	for n := range 65 {
		list := few.Below(n).List()
		for i, got := range list {
			if got != i {
				t.Errorf("below %d: %v", n, list)
			}
		}
		if len(list) != n {
			t.Errorf("below %d: %v", n, list)
		}
	}
}

func TestMeets(t *testing.T) {
	for _, row := range []struct {
		a, b few.Set
		want bool
	}{{0, 0, false}, {few.Of(1), 0, false}, {few.Of(1), few.Of(2), false}, {few.Of(1) | few.Of(63), few.Of(63), true}, {few.Below(9), few.Of(8), true}, {few.Below(9), few.Of(9), false}} {
		if row.a.Meets(row.b) != row.want || row.b.Meets(row.a) != row.want {
			t.Errorf("%v and %v: not %v", row.a.List(), row.b.List(), row.want)
		}
	}
}

// Whoever asks for no more gets no more.
func TestAllStops(t *testing.T) {
	var got []int
	for n := range few.Below(9).All() {
		if n == 3 {
			break
		}
		got = append(got, n)
	}
	if !slices.Equal(got, []int{0, 1, 2}) {
		t.Errorf("got %v", got)
	}
}
