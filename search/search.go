// Package search goes through states that can be reached, the nearest first, and leaves out those that stand for nothing new.
package search

import (
	"iter"
	"slices"

	"sextant/api"
	"sextant/model"
	"sextant/step"
)

// Found is a state that was found: the place in the row of the one from which it was (-1: it is initial), and how many steps it is away.
type Found struct{ State, From, Away int }

// Row is the states that were found so far. As they are gone through in its order, and what is found is put behind it, ascending, those nearer stand ahead; and of those that are as near, the one whose way is the first by the first numbers that differ, as its way but for its end stands ahead, too.
type Row []Found

// Itself is the states that one stands for where it stands for no other.
func Itself(s int) []int {
	return []int{s}
}

// Through goes through states that can be reached: their places in the row, and the states to which they have a step. Each one stands for some states, itself among them: none of these is put in the row behind it.
func (r *Row) Through(m *model.Model, standsFor func(s int) []int) iter.Seq2[int, []int] {
	return r.Along(m, func(s int) []int { return step.Next(m, s) }, standsFor)
}

// Along goes through states likewise, but only to those to which one goes on. It asks for these once of each state, where it goes through it.
func (r *Row) Along(m *model.Model, goesOn, standsFor func(s int) []int) iter.Seq2[int, []int] {
	return func(yield func(int, []int) bool) {
		there := make([]bool, m.Space())
		put := func(states []int, from, away int) {
			for _, s := range states {
				if there[s] {
					continue
				}
				*r = append(*r, Found{s, from, away})
				for _, like := range standsFor(s) {
					there[like] = true
				}
			}
		}
		put(step.Initial(m), -1, 0)
		for place := 0; place < len(*r); place++ {
			at := (*r)[place]
			next := goesOn(at.State)
			if !yield(place, next) {
				return
			}
			put(next, place, at.Away+1)
		}
	}
}

// States gives the states, in the order of the row.
func (r Row) States() []int {
	list := make([]int, 0, len(r))
	for _, f := range r {
		list = append(list, f.State)
	}
	return list
}

// Depth tells how far the farthest is away; -1, if there is none.
func (r Row) Depth() int {
	if len(r) == 0 {
		return -1
	}
	return r[len(r)-1].Away
}

// Way is that by which the state at a place was found.
func (r Row) Way(place int) []int {
	var states []int
	for ; place >= 0; place = r[place].From {
		states = append(states, r[place].State)
	}
	slices.Reverse(states)
	return states
}

// Nearest gives the way to the first state, with those to which it has a step, that is wanted; it holds that there is none, else.
func Nearest(m *model.Model, standsFor func(s int) []int, wanted func(state int, next []int) bool) api.Answer {
	var r Row
	for place, next := range r.Through(m, standsFor) {
		if wanted(r[place].State, next) {
			return api.Answer{Trace: r.Way(place), Loop: -1}
		}
	}
	return api.Answer{Holds: true, Loop: -1}
}
