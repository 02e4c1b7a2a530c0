package image

import (
	"slices"

	"sextant/api"
	"sextant/bdd"
	"sextant/few"
	"sextant/model"
)

// MaxBits is how many a state may have: a diagram of steps speaks of those of two states.
const MaxBits = api.MaxLevels / 2

// side tells which of the two states of a step a bit is of.
type side int

const (
	from side = iota
	to
)

// sets has sets of a module's states as diagrams over the bits of the side from, and sets of steps as diagrams over those of both. The same bit of both states is side by side in the order, as most steps leave most bits what they were: so their diagrams stay small.
type sets struct {
	*codes
	*bdd.Table
	all bdd.Node // the states: not all bits are the code of one
}

func newSets(m *model.Model) (*sets, error) {
	c := newCodes(m)
	if c.bits > MaxBits {
		return nil, api.ErrFull
	}
	t, err := bdd.New(2 * c.bits)
	if err != nil {
		return nil, err
	}
	s := &sets{c, t, t.True()}
	for i, size := range c.Sizes() {
		values := slices.Repeat([]bdd.Node{t.True()}, size)
		s.all = t.And(s.all, s.cases(c.fields[i], from, values))
	}
	return s, nil
}

// on is the variable of a table that is a bit of one side.
func (of side) on(bit int) int {
	return 2*bit + int(of)
}

// over gives the variables of one side.
func (s *sets) over(of side) []int {
	list := make([]int, s.bits)
	for bit := range list {
		list[bit] = of.on(bit)
	}
	return list
}

// so is the states, or the steps, of which an expression is so that speaks of some variables, and others that are none.
func (s *sets) so(t model.Term, speaks few.Set) bdd.Node {
	return model.ByCases(t, speaks, s.end, s.join)
}

func (s *sets) end(so bool) bdd.Node {
	if so {
		return s.True()
	}
	return s.False()
}

func (s *sets) join(slot model.Slot, cases []bdd.Node) bdd.Node {
	of := from
	if slot.Behind {
		of = to
	}
	return s.cases(s.fields[slot.Variable], of, cases)
}

// cases is one of several functions, by the number that the bits of a variable are; False, if they are no value's.
func (s *sets) cases(f field, of side, list []bdd.Node) bdd.Node {
	switch {
	case len(list) == 0:
		return s.False()
	case f.width == 0:
		return list[0]
	}
	rest := field{f.first + 1, f.width - 1}
	half := min(len(list), 1<<rest.width)
	return s.Ite(s.Var(of.on(f.first)), s.cases(rest, of, list[half:]), s.cases(rest, of, list[:half]))
}

// states is the states of which an expression is so.
func (s *sets) states(t model.Term) bdd.Node {
	return s.And(s.all, s.so(t, few.Below(len(s.fields))))
}

// others is the states that a set does not have.
func (s *sets) others(set bdd.Node) bdd.Node {
	return s.less(s.all, set)
}

// less is one set without what another has. (Not is not asked for: of what is gone, only what a small set has is gone through.)
func (s *sets) less(set, gone bdd.Node) bdd.Node {
	return s.Ite(gone, s.False(), set)
}

// moved is a function of the bits of one side, with those of the other in their place.
func (s *sets) moved(f bdd.Node, of, onto side) bdd.Node {
	for bit := range s.bits {
		f = s.Let(f, of.on(bit), s.Var(onto.on(bit)))
	}
	return f
}

// size tells how many states a set has.
func (s *sets) size(set bdd.Node) int {
	return s.Count(set) >> s.bits // it is counted with all values of the other side's bits
}

// list gives the states of a set, ascending.
func (s *sets) list(set bdd.Node) []int {
	var states []int
	at := make([]bool, 2*s.bits)
	for n := range s.Space() {
		for bit, so := range s.code(n) {
			at[from.on(bit)] = so
		}
		if s.Eval(set, at) {
			states = append(states, n)
		}
	}
	return states
}

// one is a state of a set that has some, and the set of it alone.
func (s *sets) one(set bdd.Node) (int, bdd.Node) {
	at, _ := s.First(set)
	code, alone := make([]bool, s.bits), s.True()
	for bit := range code {
		v := s.Var(from.on(bit))
		code[bit] = at[from.on(bit)]
		if !code[bit] {
			v = s.Not(v)
		}
		alone = s.And(alone, v)
	}
	return s.state(code), alone
}
