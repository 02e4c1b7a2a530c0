package value

import (
	"math/bits"
	"slices"

	"sextant/api"
)

func sets() []operator {
	return []operator{
		{"set", anyNumber, setOf},
		{"in", 2, within},
		{"subset", 2, ofSets(V{false}, func(a, b *set) V { return V{len(a.those(b.has)) == len(a.elements)} })},
		{"union", 2, ofSets(V{}, func(a, b *set) V { return setOf(slices.Concat(a.elements, b.elements)) })},
		{"inter", 2, ofSets(V{}, func(a, b *set) V { return newSet(a.those(b.has)) })},
		{"minus", 2, ofSets(V{}, func(a, b *set) V { return newSet(a.those(b.lacks)) })},
		{"size", 1, ofSet(func(s *set, _ []V) V { return V{int64(len(s.elements))} })},
		{"flatten", 1, ofSet(flatten)},
	}
}

// families are the operators that make many sets, functions or sequences of one set.
func families() []operator {
	return []operator{
		{"powerset", 1, ofSet(powerset)},
		{"->", 2, ofSets(V{}, mappings)},
		{"seqs", 2, ofSet(sequencesOf)},
	}
}

// ofSet makes of a function of a first value, which is a set, and of the others, one of all of them.
func ofSet(makes func(s *set, others []V) V) func([]V) V {
	return func(l []V) V {
		s, ok := l[0].is.(*set)
		if !ok {
			return V{}
		}
		return makes(s, l[1:])
	}
}

// ofSets makes of a function of two sets one of two values, which tells otherwise where they are no sets.
func ofSets(otherwise V, makes func(a, b *set) V) func([]V) V {
	return func(l []V) V {
		a, aSet := l[0].is.(*set)
		b, bSet := l[1].is.(*set)
		if !aSet || !bSet {
			return otherwise
		}
		return makes(a, b)
	}
}

// those gives a fresh list of the elements of which something is so, ascending.
func (s *set) those(so func(V) bool) []V {
	var list []V
	for _, v := range s.elements {
		if so(v) {
			list = append(list, v)
		}
	}
	return list
}

func (s *set) lacks(v V) bool {
	return !s.has(v)
}

func within(l []V) V {
	s, ok := l[1].is.(*set)
	return V{ok && s.has(l[0])}
}

func flatten(s *set, _ []V) V {
	var all []V
	for _, v := range s.elements {
		inner, ok := v.is.(*set)
		if !ok {
			return V{}
		}
		all = append(all, inner.elements...)
	}
	return setOf(all)
}

func powerset(s *set, _ []V) V {
	n := len(s.elements)
	// So many sets are too heavy however light they are; and 1 << n stays an int.
	if n >= bits.Len(api.MaxWeight) {
		return V{}
	}
	parts := make([]V, 1<<n)
	for picked := range parts {
		var part []V
		for i, v := range s.elements {
			if picked>>i&1 == 1 {
				part = append(part, v)
			}
		}
		parts[picked] = newSet(part)
	}
	return setOf(parts)
}

// mappings is the set of all functions from a to b.
func mappings(a, b *set) V {
	rows := [][]V{nil}
	for range a.elements {
		more, fits := longer(rows, b.elements)
		if !fits {
			return V{}
		}
		rows = more
	}
	var list []V
	for _, row := range rows {
		list = append(list, newFunction(a, row))
	}
	if tooHeavy(list) {
		return V{}
	}
	return newSet(list)
}

// sequencesOf is the set of all sequences of a set's elements that are not longer than an int says.
func sequencesOf(s *set, others []V) V {
	longest, ok := others[0].is.(int64)
	if !ok || longest < 0 {
		return V{}
	}
	rows := [][]V{nil}
	list := []V{newSequence(nil)}
	// Of no elements there is no longer sequence: else each round makes the list heavier, so there are few.
	for length := int64(0); length < longest && len(s.elements) > 0; length++ {
		more, fits := longer(rows, s.elements)
		if !fits {
			return V{}
		}
		rows = more
		for _, row := range rows {
			list = append(list, newSequence(row))
		}
		if tooHeavy(list) {
			return V{}
		}
	}
	return newSet(list)
}

// longer puts each of some values behind each row, in order; false, if a set of so many would be too heavy.
func longer(rows [][]V, by []V) ([][]V, bool) {
	if len(rows)*len(by) >= api.MaxWeight {
		return nil, false
	}
	more := make([][]V, 0, len(rows)*len(by))
	for _, row := range rows {
		for _, v := range by {
			more = append(more, append(slices.Clip(row), v))
		}
	}
	return more, true
}

// tooHeavy tells whether a set of some sequences or functions would be too heavy, as it is where one of them was.
func tooHeavy(list []V) bool {
	return weighAll(list) >= api.MaxWeight || slices.ContainsFunc(list, V.isNil)
}
