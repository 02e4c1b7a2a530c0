package trace

import (
	"sextant/api"
	"sextant/model"
)

// Fair tells whether a way without an end passes over no action.
func Fair(m *model.Model, states []int, loop int) bool {
	w, ok := endless(m, states, loop)
	return ok && w.fair()
}

func (w *way) fair() bool {
	for action, strong := range w.model.EachFair() {
		if w.passedOver(action, strong) {
			return false
		}
	}
	return true
}

// passedOver tells whether an action does not go from loop on, though it is enabled: all along, or, if it is strong, at all.
func (w *way) passedOver(action int, strong bool) bool {
	a, _ := w.model.Action(action)
	if w.again(w.over(a), true) {
		return false
	}
	enabled := w.enabled(action)
	if strong {
		return w.again(enabled, true)
	}
	return !w.again(enabled, false)
}

// again tells whether something is so, or is not, at a place from loop on, to which the way comes again and again.
func (w *way) again(so func(int) bool, want bool) bool {
	for i := range len(w.states) - w.loop {
		if so(w.loop+i) == want {
			return true
		}
	}
	return false
}

// Breaks tells whether an answer shows that an invariant, or a property, does not hold.
func Breaks(m *model.Model, name string, a api.Answer) bool {
	if a.Holds || !Real(m, a.Trace) {
		return false
	}
	if i, ok := m.Invariant(name); ok {
		last := a.Trace[len(a.Trace)-1]
		return a.Loop == -1 && !i.So(last, last)
	}
	p, ok := m.Property(name)
	if !ok {
		return false
	}
	w, ok := endless(m, a.Trace, a.Loop)
	return ok && goesOn(m, w.step(len(a.Trace)-1)) && w.fair() && !w.tells(p)[0]
}
