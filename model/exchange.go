package model

import "slices"

// Symmetric gives the sets whose atoms cannot be told apart, in the order in which they were said to be symmetric: of each its atoms, as they are declared.
func (m *Model) Symmetric() [][]string {
	sets := make([][]string, 0, len(m.symmetric))
	for _, atoms := range m.symmetric {
		sets = append(sets, slices.Clone(atoms))
	}
	return sets
}

// Exchange tells what a state that there is becomes, where atoms of symmetric sets become others of their sets, no two the same one. As nothing tells such atoms apart (K7), that is a state again.
func (m *Model) Exchange(becomes func(atom string) string) func(n int) int {
	known := map[[2]int]int{} // by a variable, and a place in its domain: states have the same values again and again
	return func(n int) int {
		places := m.Places(n)
		for i, place := range places {
			at := [2]int{i, place}
			if _, ok := known[at]; !ok {
				v := m.variables[i]
				known[at], _ = v.place(v.values[place].Exchange(becomes))
			}
			places[i] = known[at]
		}
		return m.At(places)
	}
}
