package model

import "sextant/value"

// with tells what an expression comes to with one more name bound.
func (m *machine) with(bound maybe, said comes) maybe {
	m.bound = append(m.bound, bound)
	got := said(m)
	m.bound = m.bound[:len(m.bound)-1]
	return got
}

// binder is what binds a name, by what stands ahead of its colon and what stands behind it.
func binder(op string, ahead, behind comes) comes {
	switch op {
	case "all":
		return quantified(ahead, behind, false)
	case "some":
		return quantified(ahead, behind, true)
	case "choose":
		return chosen(ahead, behind)
	case "those":
		return gathered("set", ahead, behind, func(list []value.V, v, said value.V) []value.V {
			if said.So() {
				return append(list, v)
			}
			return list
		})
	case "each":
		return gathered("set", ahead, behind, func(list []value.V, _, said value.V) []value.V { return append(list, said) })
	case "fun":
		return gathered("fun", ahead, behind, func(list []value.V, v, said value.V) []value.V { return append(list, v, said) })
	}
	return func(m *machine) maybe { return m.with(ahead(m), behind) } // let
}

// quantified is what one element of a set can tell alone.
func quantified(through, said comes, tells bool) comes {
	return func(m *machine) maybe {
		set := through(m)
		if !set.known {
			return maybe{}
		}
		elements, isSet := set.value.Elements()
		if !isSet {
			return is(false)
		}
		open := false
		for v := range elements {
			got := m.with(known(v), said)
			if got.known && got.value.So() == tells {
				return is(tells)
			}
			open = open || !got.known
		}
		if open {
			return maybe{}
		}
		return is(!tells)
	}
}

// chosen is the first element of a set of which something is so.
func chosen(through, said comes) comes {
	return func(m *machine) maybe {
		set := through(m)
		elements, isSet := set.value.Elements()
		if !set.known || !isSet {
			return maybe{known: set.known}
		}
		for v := range elements {
			got := m.with(known(v), said)
			if !got.known {
				return maybe{}
			}
			if got.value.So() {
				return known(v)
			}
		}
		return known(value.V{})
	}
}

// gathered is what an operator makes of what is taken for the elements of a set, one by one.
func gathered(op string, through, said comes, take func(list []value.V, v, said value.V) []value.V) comes {
	makes := value.Operator(op, 0) // it takes any number
	return func(m *machine) maybe {
		set := through(m)
		elements, isSet := set.value.Elements()
		if !set.known || !isSet {
			return maybe{known: set.known}
		}
		var list []value.V
		for v := range elements {
			got := m.with(known(v), said)
			if !got.known {
				return maybe{}
			}
			list = take(list, v, got.value)
		}
		return known(makes(list))
	}
}
