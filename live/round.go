package live

import "slices"

// round gives the states of a way in the knot from a spot on: those ahead of where it first meets a need, to which it need not come back; and those from there on, until it is there again and has met all needs. A knot has such a way, if it lacks nothing.
func (k knot) round(start spot) (ahead, round []int) {
	left := k.needs()
	meets := func(s stride) bool { return k.meetsOne(left, s) }
	if len(left) > 0 {
		way := k.nearest(start, meets)
		last := len(way) - 1
		ahead, start = froms(way[:last]), way[last].from
	}
	at := start
	for len(left) > 0 || len(round) == 0 || at != start {
		wanted := meets
		if len(left) == 0 {
			wanted = func(s stride) bool { return s.to == start }
		}
		way := k.nearest(at, wanted)
		for _, s := range way {
			k.meet(left, s)
			at = s.to
		}
		round = append(round, froms(way)...)
	}
	return ahead, round
}

// froms gives the states from which strides go.
func froms(way []stride) []int {
	var states []int
	for _, s := range way {
		states = append(states, s.from.state)
	}
	return states
}

// nearest gives the shortest way in the knot from a spot on whose last stride is wanted; there is one.
func (k knot) nearest(start spot, wanted func(stride) bool) []stride {
	came := map[spot]stride{start: {}}
	row := []spot{start}
	for place := 0; place < len(row); place++ {
		for s := range k.strides(row[place]) {
			if wanted(s) {
				return back(came, start, s)
			}
			if _, known := came[s.to]; !known {
				came[s.to] = s
				row = append(row, s.to)
			}
		}
	}
	return nil
}

// back gives the way from a spot to the end of a stride.
func back(came map[spot]stride, start spot, last stride) []stride {
	way := []stride{last}
	for last.from != start {
		last = came[last.from]
		way = append(way, last)
	}
	slices.Reverse(way)
	return way
}
