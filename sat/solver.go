package sat

import (
	"cmp"
	"math/bits"
	"slices"

	"sextant/api"
)

// After so many faults, times what pause says, the search begins anew with what it has learnt. Half of what it has learnt goes as soon as there is so much of it; each time somewhat more may stay, so that the search ends.
const (
	patience  = 64
	firstRoom = 1000
	moreRoom  = 300
)

// learnt is a clause that was found to follow of the others.
type learnt struct {
	row  int32
	wide int // from how many levels its literals came: the fewer, the sooner it is of use again
}

// solver looks for values: it believes one literal after the other and what follows of them; where that cannot be, it learns a clause by which it would have been seen earlier.
type solver struct {
	*store
	names  *names
	queue  queue
	last   []lit  // by variable: what was true of it last
	seen   []bool // by variable: false of all, but within a call
	learnt []learnt
	room   int // so much may be learnt ..
	more   int // .. and so much more each time that half of it went
	proof  []api.Line
	failed lit // what was supposed and cannot be; noLit: the clauses cannot be
}

// noLit is no literal.
const noLit lit = -1

// newSolver makes a solver for the clauses of a store.
func newSolver(f *names, s *store) *solver {
	n := len(f.variables)
	last := make([]lit, n)
	for v := range last {
		last[v] = lit(2 * v).opposite()
	}
	return &solver{store: s, names: f, queue: newQueue(n), last: last, seen: make([]bool, n), room: firstRoom, more: moreRoom, failed: noLit}
}

// search tells whether there are values with which all clauses, and all that is supposed, are true; they are on the trail then.
func (s *solver) search(suppose []lit) bool {
	if !s.begin() {
		return false
	}
	for turn := 1; ; turn++ {
		left := patience * pause(turn)
		for left > 0 && len(s.learnt) < s.room {
			bad := s.follow()
			switch {
			case bad != none && s.level() == 0:
				return false
			case bad != none:
				s.learn(bad)
				left--
			case !s.guess(suppose):
				return s.failed == noLit
			}
		}
		s.undo(0)
		if len(s.learnt) >= s.room {
			s.thin()
		}
	}
}

// pause gives the numbers 1 1 2 1 1 2 4 1 1 2 1 1 2 4 8 ..: mostly short ones, and ever longer ones among them.
func pause(turn int) int {
	for {
		k := bits.Len(uint(turn))
		if turn == 1<<k-1 {
			return 1 << (k - 1)
		}
		turn -= 1<<(k-1) - 1
	}
}

// guess believes on a level of its own what is supposed next or, if all of that is true, some literal; false: it cannot be, or nothing is left.
func (s *solver) guess(suppose []lit) bool {
	for s.level() < len(suppose) {
		l := suppose[s.level()]
		if s.truth[l] < 0 {
			s.failed = l
			return false
		}
		s.open() // even if it is true already: so the level says how many were looked at
		if s.truth[l] == 0 {
			return s.believe(l, none)
		}
	}
	for !s.queue.isEmpty() {
		if l := s.last[s.queue.take()]; s.truth[l] == 0 {
			s.open()
			return s.believe(l, none)
		}
	}
	return false
}

// undo takes back all that came behind a level, so that it can be guessed once more.
func (s *solver) undo(level int) {
	if level == s.level() {
		return
	}
	for _, l := range s.trail[s.cuts[level]:] {
		s.last[l.place()] = l
		s.queue.put(l.place())
	}
	s.back(level)
}

// learn takes in a clause by which it would have been seen earlier that a row has only false literals, and goes back to where that would have been.
func (s *solver) learn(bad int32) {
	c := s.explain(bad)
	level := 0
	for i, l := range c[1:] {
		if at := int(s.depth[l.place()]); at > level {
			level = at
			c[1], c[i+1] = c[i+1], c[1]
		}
	}
	s.proof = append(s.proof, api.Line{Clause: s.names.told(c)})
	wide := s.wide(c)
	s.undo(level)
	row := s.add(c)
	s.believe(c[0], row)
	if len(c) > 1 {
		s.learnt = append(s.learnt, learnt{row, wide})
	}
	s.queue.age()
}

// wide tells from how many levels literals came.
func (s *solver) wide(c []lit) int {
	levels := make([]int32, len(c))
	for i, l := range c {
		levels[i] = s.depth[l.place()]
	}
	slices.Sort(levels)
	return len(slices.Compact(levels))
}

// explain goes back from a row that has only false literals, by the rows by which they are, to a clause of false literals of which just one, its first, came on the last level.
func (s *solver) explain(bad int32) []lit {
	c := []lit{noLit}
	row, of, open := bad, noLit, 0
	for at := len(s.trail) - 1; ; at-- {
		for l := range s.others(row, of) {
			v := l.place()
			if s.seen[v] || s.depth[v] == 0 {
				continue
			}
			s.seen[v] = true
			s.queue.raise(v)
			if int(s.depth[v]) == s.level() {
				open++
			} else {
				c = append(c, l)
			}
		}
		for !s.seen[s.trail[at].place()] {
			at--
		}
		of = s.trail[at]
		s.seen[of.place()] = false
		open--
		if open == 0 {
			c[0] = of.opposite()
			return s.shorten(c)
		}
		row = s.why[of.place()]
	}
}

// shorten leaves out of a clause, of which all but the first literal are seen, what is false because others of it are. Nothing is seen then.
func (s *solver) shorten(c []lit) []lit {
	short := c[:1:1]
literals:
	for _, l := range c[1:] {
		why := s.why[l.place()]
		if why == none {
			short = append(short, l)
			continue
		}
		for other := range s.others(why, l.opposite()) {
			if !s.seen[other.place()] && s.depth[other.place()] > 0 {
				short = append(short, l)
				continue literals
			}
		}
	}
	for _, l := range c[1:] {
		s.seen[l.place()] = false
	}
	return short
}

// thin lets go half of what was learnt, the widest and oldest first, but for what something is true by. Nothing may be guessed.
func (s *solver) thin() {
	slices.SortFunc(s.learnt, func(a, b learnt) int {
		return cmp.Or(cmp.Compare(a.wide, b.wide), cmp.Compare(b.row, a.row))
	})
	kept := s.learnt[:len(s.learnt)/2]
	for _, l := range s.learnt[len(kept):] {
		if l.wide <= 2 || s.bears(l.row) {
			kept = append(kept, l)
			continue
		}
		s.proof = append(s.proof, api.Line{Gone: true, Clause: s.names.told(s.rows[l.row])})
		s.rows[l.row] = nil
	}
	s.learnt = kept
	s.room = max(s.room, len(kept)) + s.more
}

// core gives, of what was supposed, what cannot be true together with the clauses, each literal once.
func (s *solver) core(suppose []lit) []lit {
	if s.failed == noLit {
		return nil
	}
	blamed := make([]bool, len(s.truth))
	blamed[s.failed] = true
	s.seen[s.failed.place()] = true
	for _, l := range slices.Backward(s.trail) {
		switch why := s.why[l.place()]; {
		case !s.seen[l.place()]:
		case why == none:
			blamed[l] = true
		default:
			for other := range s.others(why, l) {
				s.seen[other.place()] = true
			}
		}
	}
	var core []lit
	for _, l := range suppose {
		if blamed[l] {
			core = append(core, l)
			blamed[l] = false
		}
	}
	return core
}
