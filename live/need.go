package live

// need is what a way without an end has to meet with again and again, or else it is not fair, or something is put off for ever.
type need struct {
	sort   int
	number int // the sign's, or the action's
}

// The sorts of needs.
const (
	sign   = iota // that a sign of time is not put off
	weak          // that an action goes, or is not enabled
	strong        // that an action goes
)

// needs is a set of them.
type needs map[need]struct{}

// needs of a way that comes to all spots of the knot again and again: a strong action that is enabled in none of them need not go.
func (k knot) needs() needs {
	var enabled actions
	for _, n := range k.spots {
		enabled |= k.enabled[k.spot(n).state]
	}
	all := needs{}
	for number := range k.signs {
		all[need{sign, number}] = struct{}{}
	}
	for action, isStrong := range k.model.EachFair() {
		switch {
		case !isStrong:
			all[need{weak, action}] = struct{}{}
		case enabled>>action&1 == 1:
			all[need{strong, action}] = struct{}{}
		}
	}
	return all
}

func (g *ground) meets(n need, s stride) bool {
	switch n.sort {
	case sign:
		return g.rules[s.edge.rule].met[s.to.says]>>n.number&1 == 1
	case weak:
		return (s.edge.by|^g.enabled[s.from.state])>>n.number&1 == 1
	}
	return s.edge.by>>n.number&1 == 1
}

// meet deletes the needs that a stride meets.
func (g *ground) meet(left needs, s stride) {
	for n := range left {
		if g.meets(n, s) {
			delete(left, n)
		}
	}
}

// meetsOne tells whether a stride meets one of some needs.
func (g *ground) meetsOne(left needs, s stride) bool {
	for n := range left {
		if g.meets(n, s) {
			return true
		}
	}
	return false
}

// lacks tells which needs no way in the knot meets.
func (k knot) lacks() needs {
	left := k.needs()
	for _, n := range k.spots {
		for s := range k.strides(k.spot(n)) {
			if len(left) == 0 {
				return left
			}
			k.meet(left, s)
		}
	}
	return left
}

// without gives the spots among which a way may still be that does not meet these needs: if they are strong ones, those in which the actions are not enabled, as they need not go there. Any other need is the same among fewer spots: then it gives none.
func (k knot) without(left needs) []int {
	var passed actions
	for n := range left {
		if n.sort != strong {
			return nil
		}
		passed |= 1 << n.number
	}
	var list []int
	for _, n := range k.spots {
		if k.enabled[k.spot(n).state]&passed == 0 {
			list = append(list, n)
		}
	}
	return list
}
