package image

import (
	"iter"

	"sextant/api"
	"sextant/bdd"
	"sextant/few"
	"sextant/model"
)

// steps knows to which states a way goes on from which.
type steps struct {
	*sets
	goes bdd.Node
}

func newSteps(s *sets) *steps {
	next := s.False()
	for i, whole := range s.EachAction() {
		next = s.Or(next, s.action(whole, s.ActionParts(i)))
	}
	next = s.And(next, s.And(s.all, s.moved(s.all, from, to)))
	stuck := s.others(s.Exists(next, s.over(to)))
	return &steps{s, s.Or(next, s.And(stuck, s.same()))}
}

// action is the steps of an action, and others between what are no states. Where each of its parts has few cases, they are looked at one by one: the whole has far more.
func (s *sets) action(whole model.Term, parts []model.Part) bdd.Node {
	var speaks few.Set
	f := s.True()
	for _, p := range parts {
		speaks |= p.Speaks
	}
	for _, p := range parts {
		if s.cost(p.Speaks) > api.MaxSpace {
			return s.so(whole, speaks)
		}
		f = s.And(f, s.so(p.Term, p.Speaks))
	}
	return f
}

// cost tells how many values some variables can have together in both states of a step.
func (s *sets) cost(variables few.Set) int {
	n := 1
	for i, size := range s.Sizes() {
		if variables.Has(i) {
			n *= size * size
		}
	}
	return n
}

// same is the steps from each state to itself.
func (s *sets) same() bdd.Node {
	f := s.True()
	for bit := range s.bits {
		f = s.less(f, s.Xor(s.Var(from.on(bit)), s.Var(to.on(bit))))
	}
	return f
}

// next is the states to which a way goes on from one of a set.
func (s *steps) next(set bdd.Node) bdd.Node {
	return s.moved(s.Exists(s.And(s.goes, set), s.over(from)), to, from)
}

// back is the states from which a way goes on to one of a set.
func (s *steps) back(set bdd.Node) bdd.Node {
	return s.Exists(s.And(s.goes, s.moved(set, from, to)), s.over(to))
}

// rings goes outward from a set of states: to those that on finds from the last ones and from all so far, but for these, as long as there are any. With each ring come all so far, it among them.
func (s *steps) rings(begin bdd.Node, on func(ring, all bdd.Node) bdd.Node) iter.Seq2[bdd.Node, bdd.Node] {
	return func(yield func(bdd.Node, bdd.Node) bool) {
		ring, all := begin, begin
		for ring != s.False() && yield(ring, all) {
			ring = s.less(on(ring, all), all)
			all = s.Or(all, ring)
		}
	}
}

// reached goes outward from the initial states, a step at a time.
func (s *steps) reached() iter.Seq2[bdd.Node, bdd.Node] {
	return s.rings(s.states(s.Initial()), func(ring, _ bdd.Node) bdd.Node { return s.next(ring) })
}

// way goes to a state of a set that is a part of the last of some rings, a state of each.
func (s *steps) way(rings []bdd.Node, end bdd.Node) []int {
	states := make([]int, len(rings))
	for i := len(rings) - 1; ; i-- {
		var alone bdd.Node
		states[i], alone = s.one(end)
		if i == 0 {
			return states
		}
		end = s.And(rings[i-1], s.back(alone))
	}
}
