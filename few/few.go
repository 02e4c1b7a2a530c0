// Package few has sets of a few small numbers: of variables, of actions.
package few

import (
	"iter"
	"math/bits"
	"slices"
)

// Set is a set of numbers from 0 to 63, each of them a bit: so | is what one of two sets has, & what both have, &^ what the second one does not have.
type Set uint64

// Of is the set of one number.
func Of(n int) Set {
	return 1 << n
}

// Below is the set of the numbers from 0 on that are below one, which is at most 64.
func Below(n int) Set {
	return 1<<n - 1
}

// Has tells whether a number is in it.
func (s Set) Has(n int) bool {
	return s.Meets(Of(n))
}

// Meets tells whether a number is in both of two sets.
func (s Set) Meets(t Set) bool {
	return s&t != 0
}

// All goes through its numbers, ascending.
func (s Set) All() iter.Seq[int] {
	return func(yield func(int) bool) {
		for left := s; left != 0; left &= left - 1 {
			if !yield(bits.TrailingZeros64(uint64(left))) {
				return
			}
		}
	}
}

// List gives its numbers, ascending.
func (s Set) List() []int {
	return slices.Collect(s.All())
}
