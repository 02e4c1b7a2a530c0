package sat

import (
	"iter"
	"slices"
)

// lit is a literal: twice its variable's place, and one more if it says that the variable is false.
type lit int32

// opposite is true where the literal is false.
func (l lit) opposite() lit {
	return l ^ 1
}

// place is that of its variable.
func (l lit) place() int32 {
	return int32(l >> 1)
}

// names gives places, from 0 on, to the variables that are spoken of: of all others nothing need be kept, and there may be millions of them.
type names struct {
	places    []int32 // by variable: one more than its place; 0: it has none
	variables []int32 // by place
}

// name gives places to all variables of clauses and of other lists.
func name(n int, clauses [][]int, others ...[]int) *names {
	f := &names{places: make([]int32, n+1)}
	for _, lists := range [2][][]int{clauses, others} {
		for _, list := range lists {
			f.hear(list)
		}
	}
	return f
}

// hear gives places to those variables of a list that have none.
func (f *names) hear(list []int) {
	for _, v := range list {
		v = max(v, -v)
		if f.places[v] == 0 {
			f.variables = append(f.variables, int32(v))
			f.places[v] = int32(len(f.variables))
		}
	}
}

// lits gives the literals that numbers stand for.
func (f *names) lits(list []int) []lit {
	lits := make([]lit, len(list))
	for i, v := range list {
		if v > 0 {
			lits[i] = lit(2 * (f.places[v] - 1))
		} else {
			lits[i] = lit(2*(f.places[-v]-1) + 1)
		}
	}
	return lits
}

// told gives the numbers by which literals are told.
func (f *names) told(lits []lit) []int {
	list := make([]int, len(lits))
	for i, l := range lits {
		list[i] = int(f.variables[l.place()])
		if l&1 != 0 {
			list[i] = -list[i]
		}
	}
	return list
}

// values gives those of all variables, if some literals are true; where nothing hangs on a variable, it is false.
func (f *names) values(n int, lits []lit) []bool {
	values := make([]bool, n)
	for _, v := range f.told(lits) {
		if v > 0 {
			values[v-1] = true
		}
	}
	return values
}

// set gives a clause's literals, each once, ascending; true: it is always true, as one stands there with its opposite.
func (f *names) set(clause []int) ([]lit, bool) {
	c := f.lits(clause)
	slices.Sort(c)
	c = slices.Compact(c)
	for i, l := range c[min(1, len(c)):] {
		if c[i] == l.opposite() {
			return nil, true
		}
	}
	return c, false
}

// sets goes through clauses as sets of literals, but for those that are always true.
func (f *names) sets(clauses [][]int) iter.Seq[[]lit] {
	return func(yield func([]lit) bool) {
		for _, clause := range clauses {
			if c, always := f.set(clause); !always && !yield(c) {
				return
			}
		}
	}
}

// store makes a store of clauses.
func (f *names) store(clauses [][]int) *store {
	s := newStore(len(f.variables))
	for c := range f.sets(clauses) {
		s.add(c)
	}
	return s
}
