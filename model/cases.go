package model

import "sextant/few"

// Slot is a variable, by its number, in a state or in the one behind it.
type Slot struct {
	Variable int
	Behind   bool
}

// ByCases tells over which two states something is so, without going through them one by one. It speaks of some variables alone. Where it is so, or not, whatever is not known of the states, end makes something of that; else join makes something of what was made of each value, ascending, that the next of these variables may have. Those of the state come first, as most steps leave little choice behind a state that is known.
func ByCases[T any](t Term, speaks few.Set, end func(so bool) T, join func(of Slot, cases []T) T) T {
	size := len(t.model.variables)
	m := &machine{now: make([]maybe, size), then: make([]maybe, size)}
	var further func(open []Slot) T
	further = func(open []Slot) T {
		got := t.comes(m)
		if got.known || len(open) == 0 {
			return end(got.value.So())
		}
		of, row := open[0], m.now
		if of.Behind {
			row = m.then
		}
		values := t.model.variables[of.Variable].values
		cases := make([]T, 0, len(values))
		for _, v := range values {
			row[of.Variable] = known(v)
			cases = append(cases, further(open[1:]))
		}
		row[of.Variable] = maybe{}
		return join(of, cases)
	}
	return further(slots(speaks & few.Below(size)))
}

// slots gives those of some variables, in the order in which they are asked.
func slots(variables few.Set) []Slot {
	var list []Slot
	for _, behind := range []bool{false, true} {
		for i := range variables.All() {
			list = append(list, Slot{i, behind})
		}
	}
	return list
}
