package image

import "sextant/bdd"

// looksAt tells how many expressions are looked at for what is asked of ways; 0, if that is nothing.
func looksAt(op string) int {
	switch op {
	case "EX", "AX", "EF", "AF", "EG", "AG":
		return 1
	case "EU", "AU":
		return 2
	}
	return 0
}

// branch is the states of which it is so. What is not so on some way is so on all, and the other way round: so two ways of looking are enough.
func (s *steps) branch(op string, of []bdd.Node) bdd.Node {
	p := of[0]
	switch op {
	case "EX":
		return s.back(p)
	case "AX":
		return s.others(s.back(s.others(p)))
	case "EF":
		return s.some(s.all, p)
	case "AG":
		return s.others(s.some(s.all, s.others(p)))
	case "AF":
		return s.every(s.all, p)
	case "EG":
		return s.others(s.every(s.all, s.others(p)))
	case "EU":
		return s.some(p, of[1])
	}
	return s.every(p, of[1])
}

// some is the states from which, on some way, q is so at some place, and p at all ahead of it.
func (s *steps) some(p, q bdd.Node) bdd.Node {
	return s.found(q, func(ring, _ bdd.Node) bdd.Node { return s.And(p, s.back(ring)) })
}

// every is those from which that is so on all ways. A state is one of them as soon as all are to which a way goes on from it; so it is found with the last ring of these.
func (s *steps) every(p, q bdd.Node) bdd.Node {
	return s.found(q, func(ring, all bdd.Node) bdd.Node {
		near := s.less(s.And(p, s.back(ring)), all)
		outside := s.less(s.next(near), all)
		return s.less(near, s.back(outside))
	})
}

// found is all that rings from a set have.
func (s *steps) found(begin bdd.Node, on func(ring, all bdd.Node) bdd.Node) bdd.Node {
	found := begin
	for _, all := range s.rings(begin, on) {
		found = all
	}
	return found
}
