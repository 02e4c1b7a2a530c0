package graph

import "sextant/model"

// The numbers of G1: what a digest begins with, and what it is multiplied by.
const (
	begin uint64 = 14695981039346656037
	times uint64 = 1099511628211
)

// Digest is a number made of a state's values.
func Digest(m *model.Model, s int) uint64 {
	h := begin
	for _, v := range m.State(s) {
		for _, b := range []byte(v) {
			h = mixed(h, b)
		}
		h = mixed(h, '\n')
	}
	return h
}

func mixed(h uint64, b byte) uint64 {
	return (h ^ uint64(b)) * times
}

// clashes tells how many states there are, less how many unlike numbers the lowest bits of their digests are.
func clashes(m *model.Model, states []int, bits int) int {
	lowest := uint64(1)<<bits - 1
	unlike := map[uint64]int{}
	for _, s := range states {
		unlike[Digest(m, s)&lowest]++
	}
	return len(states) - len(unlike)
}
