package live

import "iter"

// knot is spots from each of which a way goes to each other within the knot; or one spot alone. Spots go by their numbers.
type knot struct {
	*sieve
	part  int // the number of the part that it is
	spots []int
}

// sieve parts spots, until a way can come to all that is in one part again and again.
type sieve struct {
	*ground
	in    []int // in which part each spot is; 0: in none
	parts int
	order []int // as which each spot of the part that is gone through was come to; 0: it was not yet
	low   []int // the earliest of them that it is known to lead back to
}

func newSieve(g *ground) *sieve {
	return &sieve{ground: g, in: make([]int, g.size()), order: make([]int, g.size()), low: make([]int, g.size())}
}

// fairKnots gives, by the numbers of their parts, the knots of some spots in which a way can go on for ever, so that it is fair and nothing is put off for ever.
func (s *sieve) fairKnots(spots []int) map[int]knot {
	fair := map[int]knot{}
	todo := [][]int{spots}
	for len(todo) > 0 {
		spots, todo = todo[len(todo)-1], todo[:len(todo)-1]
		for _, k := range s.knots(spots) {
			if !k.goesOn() {
				continue
			}
			left := k.lacks()
			if len(left) == 0 {
				fair[k.part] = k
			} else {
				todo = append(todo, k.without(left))
			}
		}
	}
	return fair
}

// split makes spots a part of their own.
func (s *sieve) split(spots []int) knot {
	s.parts++
	for _, n := range spots {
		s.in[n] = s.parts
	}
	return knot{s, s.parts, spots}
}

// goesOn tells whether a way can stay in the knot at all: one spot alone need not lead to itself.
func (k knot) goesOn() bool {
	for range k.strides(k.spot(k.spots[0])) {
		return true
	}
	return false
}

// strides goes through those from a spot of the knot that stay in it.
func (k knot) strides(at spot) iter.Seq[stride] {
	return func(yield func(stride) bool) {
		c := k.from(at)
		for s, ok := k.next(&c); ok; s, ok = k.next(&c) {
			if k.in[k.number(s.to)] == k.part && !yield(s) {
				return
			}
		}
	}
}
