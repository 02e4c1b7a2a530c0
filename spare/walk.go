package spare

import (
	"slices"

	"sextant/few"
	"sextant/model"
	"sextant/step"
)

// walk is a search under way, for an invariant.
type walk struct {
	model   *model.Model
	touches touches
	shown   few.Set               // the variables that the invariant speaks of
	known   map[few.Set][]few.Set // by the actions that are enabled: what fewer gives
	gone    []bool                // by states: it was gone through
	whole   int                   // how many states were whole
}

func newWalk(m *model.Model, invariant string) *walk {
	w := &walk{model: m, touches: touched(m), known: map[few.Set][]few.Set{}, gone: make([]bool, m.Space())}
	for _, p := range m.InvariantParts(invariant) {
		w.shown |= p.Speaks
	}
	return w
}

// goesOn gives the states to which the search goes on from one, which is gone through now, ascending.
func (w *walk) goesOn(s int) []int {
	w.gone[s] = true
	for _, actions := range w.fewer(enabled(w.model, s)) {
		if next := step.Among(w.model, s, actions); w.leadOn(next) {
			return next
		}
	}
	w.whole++
	return step.Next(w.model, s)
}

// leadOn tells whether one of some states was not gone through yet: then what is put off for now is not put off for ever.
func (w *walk) leadOn(states []int) bool {
	return slices.ContainsFunc(states, func(s int) bool { return !w.gone[s] })
}

// fewer gives, in order, the actions with which the search may go on in the place of all that are enabled, if they lead on. They hang on which are enabled alone, and so are found once for all states that are alike in that.
func (w *walk) fewer(enabled few.Set) []few.Set {
	list, ok := w.known[enabled]
	if ok {
		return list
	}
	for i := range enabled.All() {
		actions := w.touches.set(i, enabled) & enabled
		if actions != enabled && !w.touches.write(actions).Meets(w.shown) && !slices.Contains(list, actions) {
			list = append(list, actions)
		}
	}
	w.known[enabled] = list
	return list
}

// enabled gives the actions that are enabled in a state.
func enabled(m *model.Model, s int) few.Set {
	var actions few.Set
	for i := range m.EachAction() {
		if step.Enabled(m, i, s) {
			actions |= few.Of(i)
		}
	}
	return actions
}
