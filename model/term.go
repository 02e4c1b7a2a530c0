package model

import (
	"iter"

	"sextant/value"
)

// Term is an expression made ready: what it comes to over two states.
type Term struct {
	model *Model
	comes comes
}

// Initial is what is to be so of an initial state.
func (m *Model) Initial() Term {
	return m.initial
}

// Action is the action of a number; false, if there is none.
func (m *Model) Action(i int) (Term, bool) {
	if i < 0 || i >= len(m.actions) {
		return Term{}, false
	}
	return m.actions[i].term, true
}

// EachAction goes through the actions, in order, with their numbers.
func (m *Model) EachAction() iter.Seq2[int, Term] {
	return func(yield func(int, Term) bool) {
		for i, a := range m.actions {
			if !yield(i, a.term) {
				return
			}
		}
	}
}

// EachFair goes through what is fair, in order: the number of the action, and whether it is strong.
func (m *Model) EachFair() iter.Seq2[int, bool] {
	return func(yield func(int, bool) bool) {
		for _, f := range m.fair {
			if !yield(f.action, f.strong) {
				return
			}
		}
	}
}

// Invariant is the invariant of a name; false, if there is none.
func (m *Model) Invariant(name string) (Term, bool) {
	for _, i := range m.invariants {
		if i.name == name {
			return i.term, true
		}
	}
	return Term{}, false
}

// Over tells what it comes to over two states that there are.
func (t Term) Over(s, u int) value.V {
	return t.comes(&machine{now: t.model.row(s), then: t.model.row(u)}).value
}

// So tells whether it is so over two states that there are.
func (t Term) So(s, u int) bool {
	return t.Over(s, u).So()
}

// Now tells whether it is so over a state that there is and any one behind it; it is not sure, if that hangs on the one behind.
func (t Term) Now(s int) (so, sure bool) {
	got := t.comes(&machine{now: t.model.row(s), then: make([]maybe, len(t.model.variables))})
	return got.known && got.value.So(), got.known
}

// From goes through the states, ascending, for which it is so over a state that there is and them.
func (t Term) From(s int) iter.Seq[int] {
	return func(yield func(int) bool) {
		then := make([]maybe, len(t.model.variables))
		t.search(&machine{now: t.model.row(s), then: then}, then, yield)
	}
}

// Alone goes through the states, ascending, for which it is so over them, twice.
func (t Term) Alone() iter.Seq[int] {
	return func(yield func(int) bool) {
		state := make([]maybe, len(t.model.variables))
		t.search(&machine{now: state, then: state}, state, yield)
	}
}

// row is the values of a state, all of which are known.
func (m *Model) row(n int) []maybe {
	row := make([]maybe, len(m.variables))
	for i, v := range m.values(n) {
		row[i] = known(v)
	}
	return row
}

// search makes one value after the other of a state known, and goes no further where it is not so already, whatever the others are: most steps are found without looking at all states.
func (t Term) search(m *machine, state []maybe, yield func(int) bool) {
	var further func(place, number int, sure bool) bool
	further = func(place, number int, sure bool) bool {
		if !sure {
			got := t.comes(m)
			if got.known && !got.value.So() {
				return true
			}
			sure = got.known
		}
		if place == len(state) {
			return yield(number)
		}
		values := t.model.variables[place].values
		for i, v := range values {
			state[place] = known(v)
			if !further(place+1, number*len(values)+i, sure) {
				return false
			}
		}
		state[place] = maybe{}
		return true
	}
	further(0, 0, false)
}
