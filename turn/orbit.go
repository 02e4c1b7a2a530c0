package turn

import (
	"slices"

	"sextant/model"
)

// orbits gives, of a state that there is, all that it can be turned into, ascending. It goes by swaps of two atoms that are declared side by side: all ways come of these, one behind the other, and they are few.
func orbits(m *model.Model) func(s int) []int {
	var swaps []func(int) int
	for _, atoms := range m.Symmetric() {
		for i := range len(atoms) - 1 {
			swaps = append(swaps, m.Exchange(swap(atoms[i], atoms[i+1])))
		}
	}
	return func(s int) []int {
		list := []int{s}
		for i := 0; i < len(list); i++ {
			for _, turned := range swaps {
				if t := turned(list[i]); !slices.Contains(list, t) {
					list = append(list, t)
				}
			}
		}
		slices.Sort(list)
		return list
	}
}
