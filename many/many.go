// Package many has sets of many numbers: of states.
package many

import (
	"iter"
	"math/bits"

	"sextant/api"
)

// Set is a set of numbers from 0 on that are below api.MaxSpace, each of them a bit. The zero Set is empty, and two sets are the same just where == says so.
type Set [api.MaxSpace / 64]uint64

// Of is the set of some numbers.
func Of(numbers ...int) Set {
	var s Set
	for _, n := range numbers {
		s.Put(n)
	}
	return s
}

// Put puts a number in.
func (s *Set) Put(n int) {
	s[n/64] |= 1 << (n % 64)
}

// Drop takes a number out.
func (s *Set) Drop(n int) {
	s[n/64] &^= 1 << (n % 64)
}

// Has tells whether a number is in it.
func (s *Set) Has(n int) bool {
	return s[n/64]>>(n%64)&1 != 0
}

// IsEmpty tells whether it has no number.
func (s *Set) IsEmpty() bool {
	return *s == Set{}
}

// Within tells whether another set has all its numbers.
func (s *Set) Within(t *Set) bool {
	for i, word := range s {
		if word&^t[i] != 0 {
			return false
		}
	}
	return true
}

// Meets tells whether a number is in both of two sets.
func (s *Set) Meets(t *Set) bool {
	for i, word := range s {
		if word&t[i] != 0 {
			return true
		}
	}
	return false
}

// Or is what one of two sets has.
func (s *Set) Or(t *Set) Set {
	var or Set
	for i, word := range s {
		or[i] = word | t[i]
	}
	return or
}

// And is what both have.
func (s *Set) And(t *Set) Set {
	var and Set
	for i, word := range s {
		and[i] = word & t[i]
	}
	return and
}

// Less is what it has and another set has not.
func (s *Set) Less(t *Set) Set {
	var less Set
	for i, word := range s {
		less[i] = word &^ t[i]
	}
	return less
}

// All goes through its numbers, ascending, as they are when it begins.
func (s Set) All() iter.Seq[int] {
	return func(yield func(int) bool) {
		for i, left := range s {
			for ; left != 0; left &= left - 1 {
				if !yield(64*i + bits.TrailingZeros64(left)) {
					return
				}
			}
		}
	}
}

// Parts gives its numbers as sets that lie side by side: those below a size, those from there on that are below twice the size, and so on, but for the empty ones.
func (s Set) Parts(size int) []Set {
	var parts []Set
	last := -1
	for n := range s.All() {
		if n/size != last {
			last = n / size
			parts = append(parts, Set{})
		}
		parts[len(parts)-1].Put(n)
	}
	return parts
}
