package bdd

// Size tells how many nodes functions have together, but for the ends.
func (t *Table) Size(fs ...Node) int {
	return len(t.diagram(fs))
}

// Nodes tells how many nodes the table has, but for the ends.
func (t *Table) Nodes() int {
	return len(t.made)
}

// Keep forgets all nodes that none of some functions has. Of those that stay, which keep their numbers, the caller may have any that was given out: so they stay for good, and not only while the functions have them, which a turn of the order may end.
func (t *Table) Keep(fs ...Node) {
	kept := t.diagram(fs)
	for _, f := range fs {
		t.rows[t.known(f)].given = true
	}
	old := t.rows
	last := yes
	for _, f := range kept {
		last = max(last, f)
	}
	t.bare(last)
	for _, f := range kept {
		t.rows[f].given = old[f].given
		t.lay(f, old[f].ask)
	}
	t.free = nil
	for f := last; f > yes; f-- {
		if t.rows[f].about == nobody {
			t.free = append(t.free, f)
		}
	}
}

// diagram gives the nodes of the diagrams of some functions, but for the ends, each once and behind its parts.
func (t *Table) diagram(fs []Node) []Node {
	var list []Node
	seen := map[Node]struct{}{no: {}, yes: {}}
	var visit func(f Node)
	visit = func(f Node) {
		if _, ok := seen[f]; ok {
			return
		}
		seen[f] = struct{}{}
		visit(t.rows[f].low)
		visit(t.rows[f].high)
		list = append(list, f)
	}
	for _, f := range fs {
		visit(t.known(f))
	}
	return list
}
