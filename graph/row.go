package graph

import (
	"iter"
	"slices"

	"sextant/model"
	"sextant/step"
)

// found is a state that can be reached: the place in the row of the one from which it was found, and how many steps it is away.
type found struct{ state, from, away int }

// row is the states that were found so far. As they are gone through in its order, and what is found is put behind it, ascending, those nearer stand ahead; and of those that are as near, the one whose way is the first by the first numbers that differ, as its way but for its end stands ahead, too.
type row []found

// through goes through all states that can be reached: their places in the row, and the states to which they have a step.
func (r *row) through(m *model.Model) iter.Seq2[int, []int] {
	return func(yield func(int, []int) bool) {
		there := make([]bool, m.Space())
		put := func(states []int, from, away int) {
			for _, s := range states {
				if !there[s] {
					there[s] = true
					*r = append(*r, found{s, from, away})
				}
			}
		}
		put(step.Initial(m), -1, 0)
		for place := 0; place < len(*r); place++ {
			at := (*r)[place]
			next := step.Next(m, at.state)
			if !yield(place, next) {
				return
			}
			put(next, place, at.away+1)
		}
	}
}

func (r row) states() []int {
	list := make([]int, 0, len(r))
	for _, f := range r {
		list = append(list, f.state)
	}
	return list
}

// way is that by which the state at a place was found.
func (r row) way(place int) []int {
	var states []int
	for ; place >= 0; place = r[place].from {
		states = append(states, r[place].state)
	}
	slices.Reverse(states)
	return states
}
