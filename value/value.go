// Package value has the values that modules speak of, and what operators make of them: see doc/01-value.md.
package value

import (
	"cmp"
	"slices"
	"strings"

	"sextant/api"
)

// V is a value. The zero V is nil.
type V struct {
	is any // nil, or a bool, an int64, a quoted, an atom, a *set or a *function; what is pointed to never changes
}

// quoted is a text, without its quotes.
type quoted string

// atom is an atom's name.
type atom string

// set has its elements ascending.
type set struct {
	elements []V
	weight   int
}

// function gives the domain's element numbered i the value numbered i.
type function struct {
	domain   *set
	gives    []V
	weight   int
	sequence bool
}

// Weight tells what a value weighs.
func (v V) Weight() int {
	return weigh(v.is)
}

func weigh(thing any) int {
	switch x := thing.(type) {
	case *set:
		return x.weight
	case *function:
		return x.weight
	}
	return 1
}

func weighAll(list []V) int {
	sum := 0
	for _, v := range list {
		sum += v.Weight()
	}
	return sum
}

// So tells whether a value is true: no other one is so.
func (v V) So() bool {
	return v.is == true
}

// isNil tells whether a value is nil, and so whether something that was made would have been too heavy.
func (v V) isNil() bool {
	return v.is == nil
}

// Compare tells which of two values comes first.
func Compare(a, b V) int {
	if d := cmp.Compare(rank(a.is), rank(b.is)); d != 0 {
		return d
	}
	return compareAlike(a.is, b.is)
}

// rank tells how many sorts of values come ahead of a thing's.
func rank(thing any) int {
	switch thing.(type) {
	case nil:
		return 0
	case bool:
		return 1
	case int64:
		return 2
	case quoted:
		return 3
	case atom:
		return 4
	case *set:
		return 5
	}
	return 6
}

// compareAlike compares two things of the same rank.
func compareAlike(a, b any) int {
	switch x := a.(type) {
	case bool:
		return compareBools(x, b.(bool))
	case int64:
		return cmp.Compare(x, b.(int64))
	case quoted:
		return strings.Compare(string(x), string(b.(quoted)))
	case atom:
		return strings.Compare(string(x), string(b.(atom)))
	case *set:
		return compareSets(x, b.(*set))
	case *function:
		return compareFunctions(x, b.(*function))
	}
	return 0
}

func compareBools(a, b bool) int {
	switch {
	case a == b:
		return 0
	case b:
		return -1
	}
	return 1
}

func compareSets(a, b *set) int {
	if a == b {
		return 0
	}
	if d := cmp.Compare(len(a.elements), len(b.elements)); d != 0 {
		return d
	}
	return slices.CompareFunc(a.elements, b.elements, Compare)
}

func compareFunctions(a, b *function) int {
	if a == b {
		return 0
	}
	if d := compareSets(a.domain, b.domain); d != 0 {
		return d
	}
	return slices.CompareFunc(a.gives, b.gives, Compare)
}

// newSet makes a set of a fresh list, which becomes its own and is ascending; nil, if it would be too heavy.
func newSet(ascending []V) V {
	s := &set{elements: ascending, weight: 1 + weighAll(ascending)}
	if s.weight > api.MaxWeight {
		return V{}
	}
	return V{s}
}

// setOf makes a set of a list in any order, which stays the caller's.
func setOf(list []V) V {
	ascending := slices.Clone(list)
	slices.SortFunc(ascending, Compare)
	return newSet(slices.CompactFunc(ascending, same))
}

func same(a, b V) bool {
	return Compare(a, b) == 0
}

// newFunction makes a function that gives, in the domain's order, what stands in a fresh list, which becomes its own.
func newFunction(domain *set, gives []V) V {
	f := &function{domain: domain, gives: gives, weight: domain.weight + weighAll(gives)}
	if f.weight > api.MaxWeight {
		return V{}
	}
	f.sequence = counts(domain.elements)
	return V{f}
}

// counts tells whether a list is 1, 2, .., n.
func counts(list []V) bool {
	for i, v := range list {
		if n, ok := v.is.(int64); !ok || n != int64(i)+1 {
			return false
		}
	}
	return true
}

// pair is what a function gives one of its domain.
type pair struct {
	of, gives V
}

// functionOf makes a function of a fresh list of pairs: of several for one value the first one counts.
func functionOf(pairs []pair) V {
	slices.SortStableFunc(pairs, func(a, b pair) int { return Compare(a.of, b.of) })
	pairs = slices.CompactFunc(pairs, func(a, b pair) bool { return same(a.of, b.of) })
	domain, gives := make([]V, len(pairs)), make([]V, len(pairs))
	for i, p := range pairs {
		domain[i], gives[i] = p.of, p.gives
	}
	s, ok := newSet(domain).is.(*set)
	if !ok {
		return V{}
	}
	return newFunction(s, gives)
}

// newSequence makes the sequence of a fresh list, which becomes its own.
func newSequence(list []V) V {
	s, ok := span(1, int64(len(list))).is.(*set)
	if !ok {
		return V{}
	}
	return newFunction(s, list)
}

// span is the set of the ints from a to b.
func span(a, b int64) V {
	if a > b {
		return newSet(nil)
	}
	// As uint64 the distance is right even where b - a is no int64.
	if uint64(b)-uint64(a) >= api.MaxWeight {
		return V{}
	}
	ints := make([]V, b-a+1)
	for i := range ints {
		ints[i] = V{a + int64(i)}
	}
	return newSet(ints)
}

// has tells whether a value is an element of a set.
func (s *set) has(v V) bool {
	_, found := s.place(v)
	return found
}

// place tells at which number a value stands in a set.
func (s *set) place(v V) (int, bool) {
	return slices.BinarySearchFunc(s.elements, v, Compare)
}
