package spare

import (
	"sextant/few"
	"sextant/model"
)

// touch is the variables that an action reads, and those that it writes.
type touch struct{ reads, writes few.Set }

// touches is what the actions of a module touch, by their numbers.
type touches []touch

func touched(m *model.Model) touches {
	all := few.Below(len(m.Variables()))
	var list touches
	for i := range m.EachAction() {
		t := touch{writes: all}
		for _, p := range m.ActionParts(i) {
			if p.Keeps {
				t.writes &^= p.Speaks
			} else {
				t.reads |= p.Speaks
			}
		}
		list = append(list, t)
	}
	return list
}

// apart tells whether none of two actions writes what the other reads or writes.
func (t touch) apart(u touch) bool {
	return !t.writes.Meets(u.reads|u.writes) && !u.writes.Meets(t.reads|t.writes)
}

// brings tells whether another action is in a set because this one is: it could get in its way, or make it enabled.
func (t touch) brings(other touch, enabled bool) bool {
	if enabled {
		return !t.apart(other)
	}
	return other.writes.Meets(t.reads)
}

// set is that of an action (O2), where some are enabled, it among them.
func (list touches) set(action int, enabled few.Set) few.Set {
	var in few.Set
	var take func(i int)
	take = func(i int) {
		if in.Has(i) {
			return
		}
		in |= few.Of(i)
		for j, other := range list {
			if list[i].brings(other, enabled.Has(i)) {
				take(j)
			}
		}
	}
	take(action)
	return in
}

// write gives the variables that one of some actions writes.
func (list touches) write(actions few.Set) few.Set {
	var all few.Set
	for i := range actions.All() {
		all |= list[i].writes
	}
	return all
}
