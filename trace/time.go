package trace

import (
	"sextant/api"
	"sextant/model"
	"sextant/step"
)

// Means tells whether a formula is true on a way without an end; with the first fault where it is.
func Means(m *model.Model, formula string, states []int, loop int) (bool, int, error) {
	f, at, err := m.Formula(formula)
	if err != nil {
		return false, at, err
	}
	w, ok := endless(m, states, loop)
	if !ok {
		return false, 0, api.ErrRange
	}
	return w.tells(f)[0], 0, nil
}

// way is a way without an end: behind its last state comes the one numbered loop.
type way struct {
	model  *model.Model
	states []int
	loop   int
}

// endless is the way of some states; false, if it is none.
func endless(m *model.Model, states []int, loop int) (*way, bool) {
	if loop < 0 || loop >= len(states) || !areStates(m, states) {
		return nil, false
	}
	return &way{m, states, loop}, true
}

// step is the state at a place, and the one behind.
func (w *way) step(place int) pair {
	behind := place + 1
	if behind == len(w.states) {
		behind = w.loop
	}
	return pair{w.states[place], w.states[behind]}
}

// over tells at which places something is so over the state there and the one behind.
func (w *way) over(t model.Term) func(int) bool {
	so := once(func(p pair) bool { return t.So(p.from, p.to) })
	return func(place int) bool { return so(w.step(place)) }
}

// enabled tells at which places an action is enabled.
func (w *way) enabled(action int) func(int) bool {
	enabled := once(func(s int) bool { return step.Enabled(w.model, action, s) })
	return func(place int) bool { return enabled(w.states[place]) }
}

// row tells of each place whether something is so there.
func (w *way) row(so func(int) bool) []bool {
	row := make([]bool, len(w.states))
	for place := range len(row) {
		row[place] = so(place)
	}
	return row
}

// tells is, place by place, what a formula is.
func (w *way) tells(f model.Formula) []bool {
	switch f.Op {
	case "":
		return w.row(w.over(f.Term))
	case "enabled":
		return w.row(w.enabled(f.Action))
	}
	p := w.tells(f.Parts[0])
	q := p
	if len(f.Parts) > 1 {
		q = w.tells(f.Parts[1])
	}
	switch f.Op {
	case "eventually":
		return w.until(func(int) bool { return true }, is(q))
	case "always":
		ends := w.until(func(int) bool { return true }, not(q))
		return w.row(not(ends))
	case "until":
		return w.until(is(p), is(q))
	}
	return w.row(sign(f.Op, p, q))
}

func is(row []bool) func(int) bool {
	return func(place int) bool { return row[place] }
}

func not(row []bool) func(int) bool {
	return func(place int) bool { return !row[place] }
}

// sign is what a sign that is none of time makes of its parts at a place; not has both in one.
func sign(op string, p, q []bool) func(int) bool {
	switch op {
	case "and":
		return func(place int) bool { return p[place] && q[place] }
	case "or":
		return func(place int) bool { return p[place] || q[place] }
	case "implies":
		return func(place int) bool { return !p[place] || q[place] }
	case "iff":
		return func(place int) bool { return p[place] == q[place] }
	}
	return not(p)
}

// until goes from the last place to the first: a place hangs on the one behind. It does so twice, as the one behind the last place is known only once it was gone through.
func (w *way) until(p, q func(int) bool) []bool {
	row := make([]bool, len(w.states))
	for range 2 {
		behind := row[w.loop]
		for back := range len(row) {
			place := len(row) - 1 - back
			behind = q(place) || p(place) && behind
			row[place] = behind
		}
	}
	return row
}
