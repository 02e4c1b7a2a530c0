// Package ground knows all states of a module, reached or not, as sets: the initial ones, those of which an invariant is so, those that follow a state, those that have a bit.
package ground

import (
	"sextant/image"
	"sextant/many"
	"sextant/model"
	"sextant/step"
)

// Ground is what is known of a module's states.
type Ground struct {
	All     many.Set
	Initial many.Set
	Good    many.Set   // those of which the invariant is so
	Ones    []many.Set // by bits: those whose code has it
	Next    func(s int) *many.Set
}

// Of looks at a module's states, and at an invariant of it.
func Of(m *model.Model, invariant model.Term) *Ground {
	g := &Ground{
		Initial: many.Of(step.Initial(m)...),
		Ones:    make([]many.Set, image.Bits(m)),
		Next:    next(m),
	}
	for s := range invariant.Alone() {
		g.Good.Put(s)
	}
	for s := range m.Space() {
		g.All.Put(s)
		for bit, one := range image.Code(m, s) {
			if one {
				g.Ones[bit].Put(s)
			}
		}
	}
	return g
}

// next gives the states that follow one. They are looked for when they are asked for, as that may take long, and once.
func next(m *model.Model) func(s int) *many.Set {
	known := make([]*many.Set, m.Space())
	return func(s int) *many.Set {
		if known[s] == nil {
			set := many.Of(step.Next(m, s)...)
			known[s] = &set
		}
		return known[s]
	}
}
