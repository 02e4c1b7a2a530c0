package induct

import (
	"slices"

	"sextant/many"
)

// seal is clauses that show that the invariant holds.
type seal struct {
	*kept
	clauses [][]int
}

// cover makes clauses that all are true of just the states of a set.
func (s *seal) cover(set *many.Set) {
	left := s.All.Less(set)
	for n := range left.All() {
		if !left.Has(n) {
			continue
		}
		c := shortened(s.but(n), func(shorter []int) bool { return set.Within(s.where(shorter)) })
		s.clauses = append(s.clauses, c)
		left = left.And(s.where(c))
	}
}

// thin leaves out clause by clause what can be left out, the others being as they are then; false: it is nothing. What could not be left out may be so once something else is gone, so that all must be looked at again until nothing more goes.
func (s *seal) thin() bool {
	less := false
	behind := s.behind()
	ahead, kept := s.All, s.clauses[:0]
	for i, c := range s.clauses {
		others := ahead.And(&behind[i])
		if s.shows(&others) {
			less = true
			continue
		}
		shorter := shortened(c, func(shorter []int) bool {
			set := others.And(s.where(shorter))
			return s.shows(&set)
		})
		less = less || len(shorter) < len(c)
		ahead = ahead.And(s.where(shorter))
		kept = append(kept, shorter)
	}
	s.clauses = kept
	return less
}

// behind gives, by clauses, the states of which all clauses behind it are true.
func (s *seal) behind() []many.Set {
	list := make([]many.Set, len(s.clauses))
	set := s.All
	for i, c := range slices.Backward(s.clauses) {
		list[i] = set
		set = set.And(s.where(c))
	}
	return list
}

// shortened leaves out of a clause, one after the other, the literals without which it may be.
func shortened(clause []int, may func(shorter []int) bool) []int {
	for i := 0; i < len(clause); {
		shorter := slices.Delete(slices.Clone(clause), i, i+1)
		if may(shorter) {
			clause = shorter
		} else {
			i++
		}
	}
	return clause
}
