package bdd

// Table has functions of some variables: the diagrams of all that were given out since Keep, or before it and not forgotten. Nothing else outlasts a call.
type Table struct {
	order []int            // the variables, from the top
	level []int            // where in the order each variable is; the ends, as if they asked one more variable, are below all
	rows  []row            // of each node what it is; the two ends come first
	free  []Node           // numbers of rows that are no node's
	made  map[ask]Node     // all nodes, but for the ends
	found map[[3]Node]Node // within a call: what ite has come to
	fresh []Node           // within a call: nodes that were made
}

// ask is what a node asks: a variable, and what the function is with that one false, and true.
type ask struct {
	about     int
	low, high Node
}

// part is what the function is with the variable so, or not.
func (a ask) part(so bool) Node {
	if so {
		return a.high
	}
	return a.low
}

// row is a node, and what holds it in the table.
type row struct {
	ask
	users int  // how many nodes have it for a part
	given bool // the caller may have it
}

// nobody is what a row asks about that is no node's.
const nobody = -1

// empty is a table that has nothing but the ends yet.
func empty(n int) *Table {
	t := &Table{made: map[ask]Node{}, found: map[[3]Node]Node{}, level: make([]int, n+1)}
	for i := range n {
		t.order = append(t.order, i)
	}
	for i := range t.level {
		t.level[i] = i
	}
	t.bare(yes)
	return t
}

// bare leaves the ends alone, and rows for nodes up to one.
func (t *Table) bare(last Node) {
	t.rows = make([]row, last+1)
	for f := range t.rows {
		t.rows[f].about = nobody
	}
	end := row{ask: ask{about: len(t.order)}, given: true}
	t.rows[no], t.rows[yes] = end, end
	t.made = cleared(t.made)
}

// known is a node, if the table has it.
func (t *Table) known(f Node) Node {
	if f < 0 || int(f) >= len(t.rows) || t.rows[f].about == nobody {
		return no
	}
	return f
}

// top is the topmost variable of those that some functions hang on.
func (t *Table) top(fs [3]Node) int {
	top := len(t.order)
	for _, f := range fs {
		if about := t.rows[f].about; t.level[about] < t.level[top] {
			top = about
		}
	}
	return top
}

// parts are what a function that hangs on none above a variable is with that one false, and true.
func (t *Table) parts(f Node, about int) (low, high Node) {
	if a := t.rows[f].ask; a.about == about {
		return a.low, a.high
	}
	return f, f
}

// node is the function that is one of two others, which hang on variables below its own alone, as the variable says.
func (t *Table) node(about int, low, high Node) Node {
	if low == high {
		return low
	}
	a := ask{about, low, high}
	f, ok := t.made[a]
	if !ok {
		f = t.number()
		t.fresh = append(t.fresh, f)
		t.lay(f, a)
	}
	return f
}

// number is one that no node has.
func (t *Table) number() Node {
	if last := len(t.free) - 1; last >= 0 {
		f := t.free[last]
		t.free = t.free[:last]
		return f
	}
	t.rows = append(t.rows, row{})
	return Node(len(t.rows) - 1)
}

// lay makes a node ask something that none asks yet.
func (t *Table) lay(f Node, a ask) {
	t.rows[f].ask = a
	t.made[a] = f
	t.rows[a.low].users++
	t.rows[a.high].users++
}

// leave takes one of its users from a node, and lets it go if that was all that held it.
func (t *Table) leave(f Node) {
	t.rows[f].users--
	t.drop(f)
}

// drop lets a node go that nothing holds, with those of its parts that nothing else holds.
func (t *Table) drop(f Node) {
	r := t.rows[f]
	if r.users > 0 || r.given {
		return
	}
	delete(t.made, r.ask)
	t.rows[f].about = nobody
	t.free = append(t.free, f)
	t.leave(r.low)
	t.leave(r.high)
}

// give ends a call: a node goes out, and what was made on the way to it and is no part of it goes.
func (t *Table) give(f Node) Node {
	t.rows[f].given = true
	for _, made := range t.fresh { // parts are made ahead of their whole, so none comes up again that went with it
		t.drop(made)
	}
	t.fresh = nil
	t.found = cleared(t.found)
	return f
}

// cleared is a map without anything in it: the same one, or another if it grew so large that clearing it behind each small call would take longer than the call.
func cleared[K comparable, V any](m map[K]V) map[K]V {
	if len(m) > 1000 {
		return map[K]V{}
	}
	clear(m)
	return m
}
