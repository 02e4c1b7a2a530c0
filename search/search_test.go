package search_test

import (
	"fmt"
	"slices"
	"testing"

	"sextant/model"
	"sextant/search"
)

func made(t *testing.T, text string) *model.Model {
	t.Helper()
	m, at, err := model.New(text)
	if err != nil {
		t.Fatalf("New(%q): %v at %d", text, err, at)
	}
	return m
}

const twos = "module Twos variable n in 0 .. 7 init n in {2, 4} action A == n < 6 and n' in {n + 1, n + 2} action B == n = 2 and n' = 0"

// pairs stands for a state and the one beside it.
func pairs(s int) []int {
	return []int{s &^ 1, s | 1}
}

func TestThrough(t *testing.T) {
	m := made(t, twos)
	for _, row := range []struct {
		standsFor func(int) []int
		want      string
		depth     int
	}{
		{search.Itself, "2/-1/0 4/-1/0 0/0/1 3/0/1 5/1/1 6/1/1 1/2/2 7/4/2", 2},
		{pairs, "2/-1/0 4/-1/0 0/0/1 6/1/1", 1},
	} {
		var r search.Row
		for place, next := range r.Through(m, row.standsFor) {
			if s := r[place].State; s < 6 != (len(next) > 0) {
				t.Errorf("of %d: %v", s, next)
			}
		}
		got, states := "", ""
		for _, f := range r {
			got += fmt.Sprintf(" %d/%d/%d", f.State, f.From, f.Away)
			states += fmt.Sprintf(" %d", f.State)
		}
		if got != " "+row.want || r.Depth() != row.depth {
			t.Errorf("got%s, depth %d", got, r.Depth())
		}
		if fmt.Sprint(r.States()) != "["+states[1:]+"]" {
			t.Errorf("States: %v", r.States())
		}
	}
}

// Where one does not go on, nothing is put in the row; each state is asked once, where it is gone through.
func TestAlong(t *testing.T) {
	m := made(t, twos)
	var asked []int
	up := func(s int) []int {
		asked = append(asked, s)
		if s < 6 {
			return []int{s + 1, s + 2}
		}
		return nil
	}
	var r search.Row
	for place, next := range r.Along(m, up, search.Itself) {
		if s := r[place].State; len(asked) != place+1 || asked[place] != s || s < 6 && next[0] != s+1 {
			t.Errorf("of %d: %v, %v", s, next, asked)
		}
	}
	if got := fmt.Sprint(r); got != "[{2 -1 0} {4 -1 0} {3 0 1} {5 1 1} {6 1 1} {7 3 2}]" {
		t.Errorf("got %s", got)
	}
	if got := fmt.Sprint(r.Way(0), r.Way(2), r.Way(5)); got != "[2] [2 3] [4 5 7]" {
		t.Errorf("ways: %s", got)
	}
}

func TestThroughNothing(t *testing.T) {
	var r search.Row
	for range r.Through(made(t, "module M init false"), search.Itself) {
		t.Error("there is nothing to go through")
	}
	if r.Depth() != -1 || len(r.States()) != 0 {
		t.Errorf("got %d, %v", r.Depth(), r.States())
	}
}

func TestNearest(t *testing.T) {
	m := made(t, twos)
	for _, row := range []struct {
		wanted    int
		standsFor func(int) []int
		want      []int
	}{
		{4, search.Itself, []int{4}}, {6, search.Itself, []int{4, 6}}, {7, search.Itself, []int{4, 5, 7}}, {1, search.Itself, []int{2, 0, 1}}, {8, search.Itself, nil},
		{6, pairs, []int{4, 6}}, {7, pairs, nil}, {5, pairs, nil},
	} {
		got := search.Nearest(m, row.standsFor, func(s int, _ []int) bool { return s == row.wanted })
		if got.Holds != (row.want == nil) || got.Loop != -1 || !slices.Equal(got.Trace, row.want) {
			t.Errorf("%d: got %+v, want %v", row.wanted, got, row.want)
		}
	}
	got := search.Nearest(m, search.Itself, func(_ int, next []int) bool { return len(next) == 0 })
	if !slices.Equal(got.Trace, []int{4, 6}) {
		t.Errorf("got %+v", got)
	}
}
