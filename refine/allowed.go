package refine

import (
	"sextant/many"
	"sextant/model"
	"sextant/search"
	"sextant/step"
)

// allowed is what a module may do. It may be asked of none, too.
type allowed struct {
	begin func(s int) bool
	step  func(from, to int) bool // there is one, or both are the same
}

func allowedBy(b *model.Model) allowed {
	initial, known := b.Initial(), steps{b, make([]row, b.Space())}
	return allowed{
		begin: func(s int) bool { return s != none && initial.So(s, s) },
		step: func(from, to int) bool {
			return from == to || from != none && to != none && known.has(from, to)
		},
	}
}

// firstWrong is the first of the shortest ways of a module that end with what is not allowed of what it stands for; nil, if there is none. The state ahead of a step that is not allowed is as near as can be, as a shorter way to it would show the same; so it is the first one that is come to.
func (l allowed) firstWrong(a *model.Model, standsFor []int) []int {
	for _, s := range step.Initial(a) {
		if !l.begin(standsFor[s]) {
			return []int{s}
		}
	}
	var r search.Row
	for place, next := range r.Through(a, search.Itself) {
		from := standsFor[r[place].State]
		for _, t := range next {
			if !l.step(from, standsFor[t]) {
				return append(r.Way(place), t)
			}
		}
	}
	return nil
}

// steps knows of a module which steps it has, as far as they were asked for.
type steps struct {
	model *model.Model
	rows  []row // by states
}

// row is the states to which there is a step from one, as far as that is known.
type row struct {
	goes  many.Set
	times int // how often it was looked for more of them
}

// oneByOne is how many steps from a state are looked at each alone. Where more are asked for, all are looked for at once: that may take as long as looking at as many steps as there are states, but mostly takes far less.
const oneByOne = 16

func (k steps) has(from, to int) bool {
	r := &k.rows[from]
	if !r.goes.Has(to) && r.times <= oneByOne {
		k.look(r, from, to)
	}
	return r.goes.Has(to)
}

func (k steps) look(r *row, from, to int) {
	r.times++
	switch {
	case r.times > oneByOne:
		r.goes = many.Of(step.Next(k.model, from)...)
	case len(step.Which(k.model, from, to)) > 0:
		r.goes.Put(to)
	}
}
