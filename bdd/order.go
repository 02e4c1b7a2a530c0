package bdd

import (
	"cmp"
	"slices"
)

// Order gives the variables, from the top.
func (t *Table) Order() []int {
	return slices.Clone(t.order)
}

// Swap lets the variable at a level and the one below it change places; false: there are not two.
func (t *Table) Swap(level int) bool {
	if level < 0 || level >= len(t.order)-1 {
		return false
	}
	t.turn(level)
	return true
}

// Sift puts each variable, those that most nodes of some functions ask first, where these have fewest nodes.
func (t *Table) Sift(fs ...Node) {
	// The places are tried on a copy that has nothing else: its nodes need not be told from others, and what else the table has is turned but once.
	alone := t.alone(fs)
	for _, i := range alone.busiest() {
		t.move(i, alone.settle(i))
	}
}

// alone is a table in the same order with the diagrams of some functions, and no others.
func (t *Table) alone(fs []Node) *Table {
	other := empty(len(t.order))
	copy(other.order, t.order)
	copy(other.level, t.level)
	there := map[Node]Node{no: no, yes: yes}
	for _, f := range t.diagram(fs) {
		a := t.rows[f].ask
		there[f] = other.node(a.about, there[a.low], there[a.high])
	}
	for _, f := range fs {
		other.rows[there[t.known(f)]].given = true
	}
	return other
}

// busiest gives the variables, those that more nodes ask first.
func (t *Table) busiest() []int {
	asked := make([]int, len(t.order))
	list := slices.Sorted(slices.Values(t.order))
	for a := range t.made {
		asked[a.about]++
	}
	slices.SortStableFunc(list, func(i, j int) int { return cmp.Compare(asked[j], asked[i]) })
	return list
}

// settle puts a variable where the table has fewest nodes, the topmost of such places, and tells where.
func (t *Table) settle(i int) int {
	t.move(i, 0)
	least, best := len(t.made), 0
	for level := 1; level < len(t.order); level++ {
		t.move(i, level)
		if len(t.made) < least {
			least, best = len(t.made), level
		}
	}
	t.move(i, best)
	return best
}

// move brings a variable to a level, past all between.
func (t *Table) move(i, level int) {
	for t.level[i] > level {
		t.turn(t.level[i] - 1)
	}
	for t.level[i] < level {
		t.turn(t.level[i])
	}
}

// turn lets the variables at a level and below it change places.
func (t *Table) turn(level int) {
	upper, lower := t.order[level], t.order[level+1]
	for f := range len(t.rows) { // those that come in meanwhile ask nothing about lower
		if t.rows[f].about == upper {
			t.turnNode(Node(f), lower)
		}
	}
	t.order[level], t.order[level+1] = lower, upper
	t.level[upper], t.level[lower] = level+1, level
	t.fresh = nil
}

// turnNode lets a node, which stays the function that it is, ask the variable below its own first, if it hangs on that one.
func (t *Table) turnNode(f Node, lower int) {
	old := t.rows[f].ask
	if t.rows[old.low].about != lower && t.rows[old.high].about != lower {
		return
	}
	lowLow, lowHigh := t.parts(old.low, lower)
	highLow, highHigh := t.parts(old.high, lower)
	low := t.node(old.about, lowLow, highLow)
	high := t.node(old.about, lowHigh, highHigh)
	delete(t.made, old)
	t.lay(f, ask{lower, low, high})
	t.leave(old.low)
	t.leave(old.high)
}
