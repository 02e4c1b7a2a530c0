package live

import "slices"

// descent goes from spot to spot of a part, as deep as it can, and comes upon knots on its way back: a spot that leads back to none that was come to earlier was the first of its knot. (This is Tarjan's way, without calls within calls, which could be too deep.)
type descent struct {
	*sieve
	part  int
	count int      // spots that were come to
	open  []int    // those of them whose knot was not come upon yet, in order
	path  []cursor // the spots that it is not back from, with what is left of their strides
	found []knot
}

// knots gives the knots of some spots.
func (s *sieve) knots(spots []int) []knot {
	d := &descent{sieve: s, part: s.split(spots).part}
	for _, n := range spots {
		s.order[n] = 0
	}
	for _, n := range spots {
		if s.order[n] == 0 {
			d.down(n)
		}
	}
	return d.found
}

// down goes on from a spot until it is back.
func (d *descent) down(n int) {
	d.enter(n)
	for len(d.path) > 0 {
		last := len(d.path) - 1
		at := d.number(d.path[last].at)
		if s, ok := d.next(&d.path[last]); ok {
			d.take(at, d.number(s.to))
			continue
		}
		d.path = d.path[:last]
		if last > 0 {
			d.lower(d.number(d.path[last-1].at), d.low[at])
		}
		if d.low[at] == d.order[at] {
			d.close(at)
		}
	}
}

func (d *descent) enter(n int) {
	d.count++
	d.order[n], d.low[n] = d.count, d.count
	d.open = append(d.open, n)
	d.path = append(d.path, d.from(d.spot(n)))
}

func (d *descent) lower(n, low int) {
	d.low[n] = min(d.low[n], low)
}

// take takes a stride, unless it leads out of the part, or to a knot that was come upon already.
func (d *descent) take(at, to int) {
	switch {
	case d.in[to] != d.part:
	case d.order[to] == 0:
		d.enter(to)
	default:
		d.lower(at, d.order[to])
	}
}

// close takes the knot whose first spot this is out of the part.
func (d *descent) close(first int) {
	from := len(d.open) - 1
	for d.open[from] != first {
		from--
	}
	d.found = append(d.found, d.split(slices.Clone(d.open[from:])))
	d.open = d.open[:from]
}
