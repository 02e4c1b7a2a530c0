package sat

import (
	"iter"
	"slices"
)

// none is no row.
const none = -1

// watch is a row that must be looked at when a literal becomes false, unless another of its literals is true.
type watch struct {
	row   int32
	other lit
}

// store has clauses as rows, and what is true so far, level by level: what was believed first within a level, and what follows of it.
// A row of two literals or more is watched by its first two: as long as neither is false, nothing follows of it, so that most rows need not be looked at.
type store struct {
	rows    [][]lit   // nil: gone
	single  []int32   // rows of one literal
	empty   int       // how many clauses have no literal; these have no row
	watches [][]watch // by literal
	truth   []int8    // by literal: 1 true, -1 false, 0 neither
	why     []int32   // by variable: the row by which it has its value, which is then true by its first literal alone
	depth   []int32   // by variable: the level on which it came to its value
	trail   []lit     // what is true, in the order in which it came to be
	done    int       // how many of these were looked at for what follows
	cuts    []int     // how long the trail was when each level began; level 0 needs none
}

// newStore makes a store without clauses over so many variables.
func newStore(n int) *store {
	return &store{
		watches: make([][]watch, 2*n),
		truth:   make([]int8, 2*n),
		why:     make([]int32, n),
		depth:   make([]int32, n),
	}
}

// add takes in a clause that has each literal once; nothing is made true by it. It watches its first two literals: where one of them is false, the caller sees to it that the other is true as long as that one is false.
func (s *store) add(c []lit) int32 {
	if len(c) == 0 {
		s.empty++
		return none
	}
	row := int32(len(s.rows))
	s.rows = append(s.rows, c)
	if len(c) == 1 {
		s.single = append(s.single, row)
		return row
	}
	s.watches[c[0]] = append(s.watches[c[0]], watch{row, c[1]})
	s.watches[c[1]] = append(s.watches[c[1]], watch{row, c[0]})
	return row
}

// level tells how many levels there are behind level 0.
func (s *store) level() int {
	return len(s.cuts)
}

// open begins a level.
func (s *store) open() {
	s.cuts = append(s.cuts, len(s.trail))
}

// back takes back all that came behind a level.
func (s *store) back(level int) {
	if level < s.level() {
		s.forget(s.cuts[level])
		s.cuts = s.cuts[:level]
	}
}

// forget takes back all but so many of what is true.
func (s *store) forget(kept int) {
	for _, l := range s.trail[kept:] {
		s.truth[l], s.truth[l.opposite()] = 0, 0
	}
	s.trail = s.trail[:kept]
	s.done = min(s.done, kept)
}

// believe makes a literal true, because of a row, or of none; false: its opposite is.
func (s *store) believe(l lit, why int32) bool {
	if s.truth[l] != 0 {
		return s.truth[l] > 0
	}
	s.truth[l], s.truth[l.opposite()] = 1, -1
	s.why[l.place()], s.depth[l.place()] = why, int32(s.level())
	s.trail = append(s.trail, l)
	return true
}

// bears tells whether something is true because of a row.
func (s *store) bears(row int32) bool {
	return slices.ContainsFunc(s.rows[row], func(l lit) bool { return s.truth[l] > 0 && s.why[l.place()] == row })
}

// others goes through the literals of a row, but for one.
func (s *store) others(row int32, but lit) iter.Seq[lit] {
	return func(yield func(lit) bool) {
		for _, l := range s.rows[row] {
			if l != but && !yield(l) {
				return
			}
		}
	}
}

// begin makes true all that follows of the clauses, and of what is true already; false: it cannot be.
func (s *store) begin() bool {
	if s.empty > 0 {
		return false
	}
	for _, row := range s.single {
		if !s.believe(s.rows[row][0], row) {
			return false
		}
	}
	return s.follow() == none
}

// follow makes true all that follows of what was not looked at yet. It gives a row that has only false literals, if it comes upon one, or none.
func (s *store) follow() int32 {
	for s.done < len(s.trail) {
		no := s.trail[s.done].opposite()
		s.done++
		if bad := s.look(no); bad != none {
			return bad
		}
	}
	return none
}

// look goes through the rows that are watched by a literal that is false now: each is watched by another then, or its other watch is true.
func (s *store) look(no lit) int32 {
	list := s.watches[no]
	kept := list[:0]
	bad := int32(none)
rows:
	for i, w := range list {
		if s.truth[w.other] > 0 {
			kept = append(kept, w)
			continue
		}
		c := s.rows[w.row]
		if c == nil {
			continue
		}
		if c[0] == no {
			c[0], c[1] = c[1], no
		}
		w.other = c[0]
		if s.truth[c[0]] > 0 {
			kept = append(kept, w)
			continue
		}
		for k, l := range c[2:] {
			if s.truth[l] >= 0 {
				c[1], c[k+2] = l, no
				s.watches[l] = append(s.watches[l], w)
				continue rows
			}
		}
		kept = append(kept, w)
		if !s.believe(c[0], w.row) {
			bad = w.row
			kept = append(kept, list[i+1:]...)
			break
		}
	}
	s.watches[no] = kept
	return bad
}
