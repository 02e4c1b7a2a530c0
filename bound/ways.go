package bound

import (
	"sextant/ground"
	"sextant/many"
	"sextant/sat"
)

// ways makes clauses for the ways of a module, and asks them.
type ways struct {
	*ground.Ground
	*place
}

// formula is clauses for ways of so many steps.
type formula struct {
	*place
	steps   int
	clauses [][]int
}

// ahead makes clauses for ways of so many steps, on which a state may stand where it is told that it may.
func (w *ways) ahead(steps int, may func(at, s int) bool) *formula {
	f := &formula{place: w.place, steps: steps}
	for at := range steps + 1 {
		if at > 0 {
			f.lay(at, w.parts)
		}
		for s, next := range w.onto {
			is := f.variable(at, w.state(s))
			switch {
			case !may(at, s) || at < steps && next == none:
				f.add(-is)
			case at < steps:
				f.add(-is, f.variable(at+1, next))
			}
		}
	}
	return f
}

// toBad makes clauses for ways to a state of which the invariant is not so.
func (w *ways) toBad(steps int) *formula {
	return w.ahead(steps, func(at, s int) bool { return at < steps || !w.Good.Has(s) })
}

// add adds a clause.
func (f *formula) add(literals ...int) {
	f.clauses = append(f.clauses, literals)
}

// variable is that which says that what has a name is so at a place. Those of the bits come first, place by place (D1).
func (f *formula) variable(at, name int) int {
	if name < f.bits {
		return at*f.bits + name + 1
	}
	return (f.steps+1)*f.bits + at*(f.names-f.bits) + name - f.bits + 1
}

// variables tells how many there are.
func (f *formula) variables() int {
	return (f.steps + 1) * f.names
}

// lay lays clauses of a place to one.
func (f *formula) lay(at int, clauses [][]int) {
	for _, c := range clauses {
		laid := make([]int, len(c))
		for i, l := range c {
			if l > 0 {
				laid[i] = f.variable(at, l-1)
			} else {
				laid[i] = -f.variable(at, -l-1)
			}
		}
		f.add(laid...)
	}
}

// begin says that a state of a set stands at one of the first places.
func (f *formula) begin(places int, set *many.Set) {
	var clause []int
	for at := range places {
		for s := range set.All() {
			clause = append(clause, f.variable(at, f.state(s)))
		}
	}
	f.add(clause...)
}

// tell says what bits the states have.
func (f *formula) tell() {
	for at := range f.steps + 1 {
		f.lay(at, f.codes)
	}
}

// asked tells with which values the clauses are true; none, if there are none.
func (f *formula) asked() []bool {
	solved, _ := sat.Solve(f.variables(), f.clauses, nil) // no fault: there are no more of them than it takes (D1)
	return solved.Model
}

// within gives a way of at most so many steps from an initial state to one of which the invariant is not so; none, if there is none. It ends at the last place, so it may begin at any.
func (w *ways) within(steps int) []int {
	f := w.toBad(steps)
	f.begin(steps+1, &w.Initial)
	if values := f.asked(); values != nil {
		return w.way(f, values)
	}
	return nil
}

// way is one of those that values show, from an initial state on.
func (w *ways) way(f *formula, values []bool) []int {
	stands := func(at int, among *many.Set) (int, bool) {
		for s := range among.All() {
			if values[f.variable(at, w.state(s))-1] {
				return s, true
			}
		}
		return 0, false
	}
	at := f.steps
	s, ok := stands(at, &w.Initial)
	for !ok {
		at--
		s, ok = stands(at, &w.Initial)
	}
	way := []int{s}
	for at < f.steps {
		at++
		s, _ = stands(at, w.Next(s))
		way = append(way, s)
	}
	return way
}

// shortest gives a shortest way of at most so many steps from an initial state to one of which the invariant is not so; none, if there is none. It looks ever further ahead, and then between what is too short and what was found.
func (w *ways) shortest(steps int) []int {
	least := 0 // no way has fewer steps
	var found []int
	for look := 0; ; {
		if way := w.within(look); way != nil {
			found = way
		} else {
			least = look + 1
		}
		switch most := len(found) - 1; {
		case found == nil && look == steps:
			return nil
		case found == nil:
			look = min(max(1, 2*look), steps)
		case least == most:
			return found
		default:
			look = (least + most - 1) / 2
		}
	}
}

// leaves tells whether behind some states, reached or not, each with a step to the next, and of all of which the invariant is so, there can be one of which it is not.
func (w *ways) leaves(states int) bool {
	f := w.ahead(states, func(at, s int) bool { return w.Good.Has(s) == (at < states) })
	f.begin(1, &w.All)
	return f.asked() != nil
}
