package turn

import "slices"

// count tells in how many ways the atoms of some sets can be exchanged, each within its set.
func count(sets [][]string) int {
	ways := 1
	for _, atoms := range sets {
		ways *= orders(len(atoms))
	}
	return ways
}

// orders tells in how many orders so many things can stand.
func orders(things int) int {
	n := 1
	for i := range things {
		n *= i + 1
	}
	return n
}

// way is what atoms become in the way numbered k, which there is.
func way(sets [][]string, k int) func(atom string) string {
	var all, others []string
	for _, atoms := range slices.Backward(sets) {
		n := orders(len(atoms))
		all = append(all, atoms...)
		others = append(others, ordered(atoms, k%n)...)
		k /= n
	}
	return func(atom string) string {
		if i := slices.Index(all, atom); i >= 0 {
			return others[i]
		}
		return atom
	}
}

// ordered gives things in the order numbered k: those orders that begin with the same one stand side by side, and are as many as the others have orders.
func ordered(things []string, k int) []string {
	left := slices.Clone(things)
	list := make([]string, 0, len(things))
	for range things {
		n := orders(len(left) - 1)
		first := k / n
		k %= n
		list = append(list, left[first])
		left = slices.Delete(left, first, first+1)
	}
	return list
}

// swap is what atoms become where two are exchanged with each other.
func swap(one, other string) func(atom string) string {
	return func(atom string) string {
		switch atom {
		case one:
			return other
		case other:
			return one
		}
		return atom
	}
}
