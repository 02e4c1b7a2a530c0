package live

import (
	"math/bits"
	"slices"

	"sextant/step"
)

// ways has the spots that are come to on ways at whose first place the property is not so, if all that is said on them comes true. Spots go by their numbers.
type ways struct {
	*ground
	order    []int     // those nearer first
	seen     []uint64  // of each state: what is said in its spots that were come to, a bit each
	arrivals []arrival // of each spot that was come to
}

// arrival is how a spot was come to first: from another one; or, if it is right behind the first place of a way, from an initial state.
type arrival struct {
	from  int
	first bool
}

func (g *ground) ways() *ways {
	w := &ways{ground: g, seen: make([]uint64, g.model.Space()), arrivals: make([]arrival, g.size())}
	for _, initial := range step.Initial(g.model) {
		for _, e := range g.on(initial) {
			w.come(e, g.rules[e.rule].wrong, arrival{initial, true})
		}
	}
	for place := 0; place < len(w.order); place++ {
		at := g.spot(w.order[place])
		for _, e := range g.on(at.state) {
			w.come(e, g.rules[e.rule].behind[at.says], arrival{w.order[place], false})
		}
	}
	return w
}

// come comes by an edge to the spots in which one of these things is said.
func (w *ways) come(e edge, says uint64, how arrival) {
	for fresh := says &^ w.seen[e.to]; fresh != 0; fresh &= fresh - 1 {
		n := w.number(spot{int(e.to), bits.TrailingZeros64(fresh)})
		w.arrivals[n] = how
		w.order = append(w.order, n)
	}
	w.seen[e.to] |= says
}

// nearest gives the spot of one of some knots that was come to first, and its knot; false, if there is no knot.
func (w *ways) nearest(s *sieve, knots map[int]knot) (int, knot, bool) {
	for _, n := range w.order {
		if k, ok := knots[s.in[n]]; ok {
			return n, k, true
		}
	}
	return 0, knot{}, false
}

// to gives the states ahead of a spot, from an initial one on.
func (w *ways) to(n int) []int {
	var states []int
	for !w.arrivals[n].first {
		n = w.arrivals[n].from
		states = append(states, w.spot(n).state)
	}
	states = append(states, w.arrivals[n].from)
	slices.Reverse(states)
	return states
}
