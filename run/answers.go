package run

import (
	"strings"

	"sextant/api"
	"sextant/bound"
	"sextant/form"
	"sextant/graph"
	"sextant/image"
	"sextant/induct"
	"sextant/live"
	"sextant/spare"
	"sextant/trace"
	"sextant/turn"
)

// allBits are those of a whole digest.
const allBits = 64

func (s session) show([]int, string) (string, int, error) {
	return form.Module(s.module)
}

func (s session) kind(_ []int, expr string) (string, int, error) {
	kind, level, at, err := s.model.Kind(expr)
	return line(kind + filled(" #", level)), at, err
}

func (s session) eval(states []int, expr string) (string, int, error) {
	shown, at, err := s.model.Eval(expr, states[0], states[1])
	return line(shown), at, err
}

func (s session) walk(numbers []int, _ string) (string, int, error) {
	seed, n := uint64(numbers[0]), numbers[1]
	return s.way(trace.Walk(s.model, seed, n)), 0, nil
}

// way is a way as text, a line a state; nothing, if it has none.
func (s session) way(states []int) string {
	return trace.Show(s.model, states, -1)
}

func (s session) explore([]int, string) (string, int, error) {
	r, err := graph.Explore(s.model, allBits)
	return line(filled("states # initial # edges # dead # depth #", r.States, r.Initial, r.Edges, r.Dead, r.Depth)), 0, err
}

func (s session) turned([]int, string) (string, int, error) {
	t := turn.Explore(s.model)
	return line(filled("kept # of # depth #", t.Kept, t.Stands, t.Depth)), 0, nil
}

func (s session) spared(_ []int, invariant string) (string, int, error) {
	p, err := spare.Explore(s.model, invariant)
	return line(filled("kept # whole # dead # ", p.Kept, p.Whole, len(p.Dead)) + holding(p.Answer.Holds)), 0, err
}

func (s session) rings([]int, string) (string, int, error) {
	i, err := image.Explore(s.model)
	told := filled("nodes # rings", i.Nodes)
	for _, n := range i.Rings {
		told += filled(" #", n)
	}
	return line(told), 0, err
}

func (s session) check(_ []int, invariant string) (string, int, error) {
	a, err := graph.Check(s.model, invariant, allBits)
	return s.shown(a), 0, err
}

func (s session) dead([]int, string) (string, int, error) {
	return s.shown(graph.Dead(s.model)), 0, nil
}

// shown tells whether something holds, and the way on which it does not.
func (s session) shown(a api.Answer) string {
	return line(holding(a.Holds)) + s.way(a.Trace)
}

func (s session) live(_ []int, property string) (string, int, error) {
	a, err := live.Check(s.model, property)
	return line(holding(a.Holds)), 0, err
}

func (s session) within(numbers []int, invariant string) (string, int, error) {
	a, err := bound.Check(s.model, invariant, numbers[0])
	return line(holding(a.Holds)), 0, err
}

func (s session) induct(numbers []int, invariant string) (string, int, error) {
	base, step, err := bound.Induct(s.model, invariant, numbers[0])
	return line("base " + agreed(base) + " step " + agreed(step)), 0, err
}

func (s session) seal(_ []int, invariant string) (string, int, error) {
	z, err := induct.Check(s.model, invariant)
	return line(holding(z.Answer.Holds)), 0, err
}

// branch answers for what looks at one expression alone: a line has no place for a second one.
func (s session) branch(_ []int, left string) (string, int, error) {
	op, expr, _ := strings.Cut(left, " ")
	if op == "EU" || op == "AU" {
		return "", 0, api.ErrName
	}
	states, at, err := image.Branch(s.model, op, expr, "")
	return line(filled("# of #", len(states), s.model.Space())), at, err
}
