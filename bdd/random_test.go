package bdd_test

import (
	"fmt"
	"math/bits"
	"math/rand"
	"slices"
	"testing"

	"sextant/bdd"
)

// truth is a function of at most six variables: bit k tells whether it is so with the values k, of which the variable 0 is the greatest digit. So ascending k are the values in the order of B2.
type truth uint64

// world has so many variables, in an order.
type world struct {
	n     int
	order []int
}

// all is the function that is always so.
func (w *world) all() truth {
	return truth(1)<<(1<<w.n) - 1
}

// value tells whether the variable i is so in the values k.
func (w *world) value(k, i int) bool {
	return k>>(w.n-1-i)&1 == 1
}

// with is k with the variable i as told.
func (w *world) with(k, i int, so bool) int {
	k &^= 1 << (w.n - 1 - i)
	if so {
		k |= 1 << (w.n - 1 - i)
	}
	return k
}

// by is the function that is so where told is, of the values.
func (w *world) by(told func(k int) bool) truth {
	f := truth(0)
	for k := range 1 << w.n {
		if told(k) {
			f |= 1 << k
		}
	}
	return f
}

// at tells whether a function is so with the values k.
func (f truth) at(k int) bool {
	return f>>k&1 == 1
}

// set is a function with the variable i as told.
func (w *world) set(f truth, i int, so bool) truth {
	return w.by(func(k int) bool { return f.at(w.with(k, i, so)) })
}

// diagram lays the functions that are a diagram's nodes into a map, with the variables that they ask.
func (w *world) diagram(f truth, into map[truth]int) {
	if _, ok := into[f]; ok {
		return
	}
	for _, i := range w.order {
		if low, high := w.set(f, i, false), w.set(f, i, true); low != high {
			into[f] = i
			w.diagram(low, into)
			w.diagram(high, into)
			return
		}
	}
}

// nodes are the nodes of some functions together.
func (w *world) nodes(fs []truth) map[truth]int {
	into := map[truth]int{}
	for _, f := range fs {
		w.diagram(f, into)
	}
	return into
}

// sifted is the order behind Sift, as B5 says it.
func (w *world) sifted(fs []truth) []int {
	count := make([]int, w.n)
	for _, i := range w.nodes(fs) {
		count[i]++
	}
	todo := make([]int, w.n)
	for i := range todo {
		todo[i] = i
	}
	slices.SortStableFunc(todo, func(i, j int) int { return count[j] - count[i] })
	order := slices.Clone(w.order)
	for _, i := range todo {
		others := slices.DeleteFunc(slices.Clone(order), func(j int) bool { return j == i })
		least := -1
		for place := range w.n {
			try := slices.Insert(slices.Clone(others), place, i)
			size := len((&world{w.n, try}).nodes(fs))
			if least < 0 || size < least {
				least, order = size, try
			}
		}
	}
	return order
}

// pair is a function in both forms.
type pair struct {
	node bdd.Node
	is   truth
}

// play is a table, what its functions are by B1, and what was given out and is not forgotten.
type play struct {
	*world
	t     *testing.T
	r     *rand.Rand
	b     *bdd.Table
	have  []pair
	trail string // what was done
	seen  map[string]int
}

// pick is a function that there is, rather those with more nodes.
func (p *play) pick() pair {
	one, other := p.have[p.r.Intn(len(p.have))], p.have[p.r.Intn(len(p.have))]
	if p.b.Size(one.node) > p.b.Size(other.node) {
		return one
	}
	return other
}

// some picks a few functions, or none.
func (p *play) some() (nodes []bdd.Node, fs []truth) {
	for range p.r.Intn(4) {
		f := p.pick()
		nodes, fs = append(nodes, f.node), append(fs, f.is)
	}
	return nodes, fs
}

// number is a variable's, or now and then none's.
func (p *play) number() int {
	return p.r.Intn(p.n+3) - 1
}

func (p *play) ok(i int) bool {
	return i >= 0 && i < p.n
}

// quantified is f with some, or all, values of variables, as B1 says it.
func (p *play) quantified(f truth, vars []int, all bool) truth {
	for _, i := range vars {
		if !p.ok(i) {
			continue
		}
		low, high := p.set(f, i, false), p.set(f, i, true)
		if f = low | high; all {
			f = low & high
		}
	}
	return f
}

// draw makes a function of others in both forms.
func (p *play) draw() pair {
	f, g, h, i := p.pick(), p.pick(), p.pick(), p.number()
	var vars []int
	for range p.r.Intn(4) {
		vars = append(vars, p.number())
	}
	b := p.b
	switch p.r.Intn(16) {
	case 0:
		return pair{b.Var(i), p.by(func(k int) bool { return p.ok(i) && p.value(k, i) })}
	case 1, 10, 11, 12:
		return pair{b.Ite(f.node, g.node, h.node), f.is&g.is | p.all()&^f.is&h.is}
	case 2:
		return pair{b.Not(f.node), p.all() &^ f.is}
	case 3:
		return pair{b.And(f.node, g.node), f.is & g.is}
	case 4:
		return pair{b.Or(f.node, g.node), f.is | g.is}
	case 5, 6, 13, 14:
		return pair{b.Xor(f.node, g.node), f.is ^ g.is}
	case 7:
		return pair{b.Exists(f.node, vars), p.quantified(f.is, vars, false)}
	case 8:
		return pair{b.Forall(f.node, vars), p.quantified(f.is, vars, true)}
	}
	if !p.ok(i) {
		return pair{b.Let(f.node, i, g.node), f.is}
	}
	return pair{b.Let(f.node, i, g.node), p.by(func(k int) bool { return f.is.at(p.with(k, i, g.is.at(k))) })}
}

// look holds all that a table says of a function against what it is.
func (p *play) look(f pair) {
	for k := range 1 << p.n {
		var at []bool
		for i := range p.n {
			at = append(at, p.value(k, i))
		}
		for len(at) > 0 && !at[len(at)-1] && p.r.Intn(2) == 0 {
			at = at[:len(at)-1]
		}
		if p.b.Eval(f.node, at) != f.is.at(k) {
			p.t.Fatalf("%s: Eval(%v) is %v", p.trail, at, !f.is.at(k))
		}
	}
	if got, want := p.b.Count(f.node), bits.OnesCount64(uint64(f.is)); got != want {
		p.t.Fatalf("%s: Count %d, want %d", p.trail, got, want)
	}
	at, ok := p.b.First(f.node)
	if ok != (f.is != 0) || !ok && len(at) != 0 || ok && len(at) != p.n {
		p.t.Fatalf("%s: First %v, %v", p.trail, at, ok)
	}
	for i, so := range at {
		if so != p.value(bits.TrailingZeros64(uint64(f.is)), i) {
			p.t.Fatalf("%s: First %v of %b", p.trail, at, f.is)
		}
	}
	if got, want := p.b.Size(f.node), len(p.nodes([]truth{f.is})); got != want {
		p.t.Fatalf("%s: Size %d, want %d", p.trail, got, want)
	}
}

// whole holds the table against all that was given out.
func (p *play) whole() {
	nodes, fs := p.some()
	if got, want := p.b.Size(nodes...), len(p.nodes(fs)); got != want {
		p.t.Fatalf("%s: Size together %d, want %d", p.trail, got, want)
	}
	fs = nil
	for i, f := range p.have {
		fs = append(fs, f.is)
		for _, g := range p.have[:i] {
			if (f.node == g.node) != (f.is == g.is) {
				p.t.Fatalf("%s: nodes %d and %d, of %b and %b", p.trail, f.node, g.node, f.is, g.is)
			}
		}
	}
	// B3 says at least as many; that it has no others is the program's own rule.
	if got, want := p.b.Nodes(), len(p.nodes(fs)); got != want {
		p.t.Fatalf("%s: Nodes %d, want %d", p.trail, got, want)
	}
	if got := p.b.Order(); !slices.Equal(got, p.order) {
		p.t.Fatalf("%s: Order %v, want %v", p.trail, got, p.order)
	}
}

// keep forgets all but a few functions; what of the others is a part of these stays.
func (p *play) keep() {
	nodes, fs := p.some()
	p.b.Keep(nodes...)
	stay := p.nodes(fs)
	if got := p.b.Nodes(); got != len(stay) || got != p.b.Size(nodes...) {
		p.t.Fatalf("%s: Nodes behind Keep %d, want %d", p.trail, got, len(stay))
	}
	p.have = slices.DeleteFunc(p.have, func(f pair) bool {
		_, part := stay[f.is]
		if part && !slices.Contains(fs, f.is) {
			p.seen["part kept"]++
		}
		return !part && f.is != 0 && f.is != p.all()
	})
}

func (p *play) swap() {
	level := p.number()
	two := level >= 0 && level+1 < p.n
	if p.b.Swap(level) != two {
		p.t.Fatalf("%s: Swap(%d) is %v", p.trail, level, !two)
	}
	if two {
		p.order[level], p.order[level+1] = p.order[level+1], p.order[level]
		p.seen["swapped"]++
	}
}

func (p *play) sift() {
	nodes, fs := p.some()
	was := len(p.nodes(fs))
	p.order = p.sifted(fs)
	p.b.Sift(nodes...)
	if is := len(p.nodes(fs)); is < was {
		p.seen["fewer by Sift"]++
	} else if is > 0 {
		p.seen["as many by Sift"]++
	}
}

// turn does something else than make a function, and looks at all that there is.
func (p *play) turn() {
	switch p.r.Intn(10) {
	case 0:
		p.trail += " keep"
		p.keep()
	case 1, 2:
		p.trail += " sift"
		p.sift()
	default:
		p.trail += " swap"
		p.swap()
	}
	for _, f := range p.have {
		p.look(f)
	}
}

// begun is a play at its beginning.
func begun(t *testing.T, seed int64, seen map[string]int) *play {
	r := rand.New(rand.NewSource(seed))
	w := &world{n: min(6, r.Intn(12))}
	for i := range w.n {
		w.order = append(w.order, i)
	}
	b := table(t, w.n)
	p := &play{world: w, t: t, r: r, b: b, have: []pair{{b.False(), 0}, {b.True(), w.all()}}, trail: fmt.Sprintf("seed %d, n %d:", seed, w.n), seen: seen}
	for i := range w.n {
		p.have = append(p.have, pair{b.Var(i), w.by(func(k int) bool { return w.value(k, i) })})
	}
	return p
}

// run plays some steps, and gives the nodes that came out.
func (p *play) run() []bdd.Node {
	for range 50 {
		if p.r.Intn(6) == 0 {
			p.turn()
		} else {
			f := p.draw()
			p.look(f)
			if !slices.Contains(p.have, f) {
				p.have = append(p.have, f)
			}
			p.seen[fmt.Sprint("nodes ", min(3, len(p.nodes([]truth{f.is}))/5))]++
		}
		p.whole()
	}
	var nodes []bdd.Node
	for _, f := range p.have {
		nodes = append(nodes, f.node)
	}
	return nodes
}

// B1 to B5, and all of them mixed: what a table says is what truth tables say, in whatever order it is, and whatever was forgotten.
func TestB1AtRandom(t *testing.T) {
	seen := map[string]int{}
	for seed := range int64(400) {
		nodes := begun(t, seed, seen).run()
		if seed%10 == 0 && !slices.Equal(nodes, begun(t, seed, map[string]int{}).run()) {
			t.Fatalf("seed %d: P2: the same calls give other nodes", seed)
		}
	}
	for _, what := range []string{"part kept", "swapped", "fewer by Sift", "as many by Sift", "nodes 0", "nodes 1", "nodes 2", "nodes 3"} {
		if seen[what] < 100 {
			t.Errorf("%s: seen but %d times", what, seen[what])
		}
	}
}
