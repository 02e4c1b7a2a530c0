package induct

import (
	"sextant/ground"
	"sextant/many"
)

// kept tells which sets of states steps keep, and what clauses say of states.
type kept struct {
	*ground.Ground
}

// shows tells whether states show that the invariant holds: all initial ones are among them, no step leaves them, and the invariant is so of all.
func (k *kept) shows(set *many.Set) bool {
	if !k.Initial.Within(set) || !set.Within(&k.Good) {
		return false
	}
	for s := range set.All() {
		if !k.Next(s).Within(set) {
			return false
		}
	}
	return true
}

// areLiterals tells whether all numbers are literals over the bits.
func (k *kept) areLiterals(clause []int) bool {
	bits := len(k.Ones)
	for _, l := range clause {
		if l == 0 || l < -bits || l > bits {
			return false
		}
	}
	return true
}

// where is the states of which a clause is true.
func (k *kept) where(clause []int) *many.Set {
	var set many.Set
	for _, l := range clause {
		if l > 0 {
			set = set.Or(&k.Ones[l-1])
		} else {
			zeros := k.All.Less(&k.Ones[-l-1])
			set = set.Or(&zeros)
		}
	}
	return &set
}

// but is the clause that is false of a state, and true of all others.
func (k *kept) but(s int) []int {
	clause := make([]int, len(k.Ones))
	for bit := range clause {
		clause[bit] = bit + 1
		if k.Ones[bit].Has(s) {
			clause[bit] = -clause[bit]
		}
	}
	return clause
}
