package bdd_test

import (
	"math"
	"slices"
	"testing"

	"sextant/api"
	"sextant/bdd"
	"sextant/plain"
)

// table makes a table of so many variables.
func table(t *testing.T, n int) *bdd.Table {
	t.Helper()
	b, err := bdd.New(n)
	if err != nil {
		t.Fatalf("New(%d): %v", n, err)
	}
	return b
}

// lamps is the function of the chapter's first row: Or(And(Var(0), Var(1)), Var(2)).
func lamps(b *bdd.Table) bdd.Node {
	return b.Or(b.And(b.Var(0), b.Var(1)), b.Var(2))
}

// pairs is so where some variable of the first half and the one as far behind the middle both are.
func pairs(b *bdd.Table) bdd.Node {
	half := len(b.Order()) / 2
	f := b.False()
	for i := range half {
		f = b.Or(f, b.And(b.Var(i), b.Var(i+half)))
	}
	return f
}

// isOrder tells a test's fault if a table's order is another.
func isOrder(t *testing.T, b *bdd.Table, want ...int) {
	t.Helper()
	if got := b.Order(); !slices.Equal(got, want) {
		t.Errorf("Order: %v, want %v", got, want)
	}
}

// is tells a test's fault if a number is another.
func is(t *testing.T, what string, got, want int) {
	t.Helper()
	if got != want {
		t.Errorf("%s: %d, want %d", what, got, want)
	}
}

func TestB1New(t *testing.T) {
	for _, n := range []int{math.MinInt, -1, api.MaxLevels + 1, math.MaxInt} {
		if b, err := bdd.New(n); b != nil || plain.Told(err) != api.ErrRange {
			t.Errorf("New(%d): %v, %v", n, b, err)
		}
	}
	for n := range api.MaxLevels + 1 {
		b := table(t, n)
		is(t, "Count(True)", b.Count(b.True()), 1<<n)
		is(t, "Nodes", b.Nodes(), 0)
	}
}

func TestB1NoVariables(t *testing.T) {
	b := table(t, 0)
	if b.False() == b.True() || b.Var(0) != b.False() || b.Not(b.False()) != b.True() || b.Xor(b.True(), b.True()) != b.False() {
		t.Error("the ends are not themselves")
	}
	if b.Exists(b.True(), []int{0}) != b.True() || b.Let(b.False(), 0, b.True()) != b.False() {
		t.Error("what is no variable changes something")
	}
	if at, ok := b.First(b.True()); len(at) != 0 || !ok {
		t.Errorf("First(True): %v, %v", at, ok)
	}
	if b.Swap(0) || b.Swap(-1) {
		t.Error("Swap finds two")
	}
	b.Sift(b.True(), b.False())
	b.Keep()
	is(t, "Count(False)", b.Count(b.False()), 0)
	is(t, "Count(True)", b.Count(b.True()), 1)
	is(t, "Nodes", b.Nodes(), 0)
	isOrder(t, b)
}

func TestB1Row(t *testing.T) {
	b := table(t, 3)
	f := lamps(b)
	if b.Exists(f, []int{2}) != b.True() {
		t.Error("Exists(f, 2) is not True")
	}
	if b.Let(f, 2, b.False()) != b.And(b.Var(0), b.Var(1)) {
		t.Error("Let(f, 2, False) is not And(Var(0), Var(1))")
	}
}

func TestB1Found(t *testing.T) {
	b := table(t, 4)
	x, y, z := b.Var(0), b.Var(1), b.Var(3)
	same := [][2]bdd.Node{
		{b.Var(0), x}, {b.Not(b.Not(x)), x}, {b.And(x, x), x}, {b.Or(x, b.False()), x}, {b.And(x, b.True()), x}, {b.And(x, y), b.And(y, x)}, {b.Xor(x, x), b.False()}, {b.Xor(x, b.True()), b.Not(x)},
		{b.Or(x, b.Not(x)), b.True()}, {b.Not(b.And(x, y)), b.Or(b.Not(x), b.Not(y))}, {b.Xor(x, y), b.Or(b.And(x, b.Not(y)), b.And(b.Not(x), y))}, {b.Ite(x, y, z), b.Or(b.And(x, y), b.And(b.Not(x), z))},
		{b.Ite(x, x, y), b.Or(x, y)}, {b.Ite(x, y, x), b.And(x, y)}, {b.Ite(y, z, z), z}, {b.Ite(b.True(), y, z), y}, {b.Ite(b.False(), y, z), z},
	}
	for i, c := range same {
		if c[0] != c[1] {
			t.Errorf("pair %d: two nodes for one function", i)
		}
	}
	unlike := []bdd.Node{b.False(), b.True(), x, y, z, b.Not(x), b.And(x, y), b.Or(x, y), b.Xor(x, y), b.Ite(x, y, z), b.Ite(z, y, x)}
	for i, f := range unlike {
		if slices.Contains(unlike[:i], f) {
			t.Errorf("function %d: one node for two functions", i)
		}
	}
}

func TestB1NoVariableOfIt(t *testing.T) {
	b := table(t, 3)
	f := lamps(b)
	for _, i := range []int{math.MinInt, -1, 3, 63, 64, math.MaxInt} {
		if b.Var(i) != b.False() {
			t.Errorf("Var(%d) is not False", i)
		}
		if b.Exists(f, []int{i}) != f || b.Forall(f, []int{i}) != f || b.Let(f, i, b.True()) != f {
			t.Errorf("%d changes something", i)
		}
		if b.Exists(f, []int{i, 2, i, 2}) != b.True() || b.Forall(f, []int{2, i, 2}) != b.And(b.Var(0), b.Var(1)) {
			t.Errorf("%d changes something beside 2", i)
		}
	}
	if b.Exists(f, nil) != f || b.Forall(f, []int{}) != f {
		t.Error("no variables change something")
	}
}

func TestB1Several(t *testing.T) {
	b := table(t, 3)
	f := b.Xor(b.Var(0), b.And(b.Var(1), b.Var(2)))
	if got := b.Exists(f, []int{2, 0}); got != b.True() {
		t.Error("Exists over 0 and 2 is not True")
	}
	if got := b.Forall(f, []int{1, 2}); got != b.False() {
		t.Error("Forall over 1 and 2 is not False")
	}
	if got := b.Exists(lamps(b), []int{0, 2, 1}); got != b.True() {
		t.Error("Exists over all is not True")
	}
	if got := b.Forall(lamps(b), []int{1, 0}); got != b.Var(2) {
		t.Error("Forall over 0 and 1 is not Var(2)")
	}
}

func TestB1LetItself(t *testing.T) {
	b := table(t, 3)
	x, y, z := b.Var(0), b.Var(1), b.Var(2)
	if got := b.Let(b.Xor(x, y), 0, b.Not(x)); got != b.Not(b.Xor(x, y)) {
		t.Error("a function of the variable itself is not what is in its place")
	}
	if got := b.Let(b.Xor(y, z), 2, b.And(x, z)); got != b.Xor(y, b.And(x, z)) {
		t.Error("a function of a variable above is not what is in its place")
	}
	if got := b.Let(x, 1, z); got != x {
		t.Error("a variable that the function does not hang on changes it")
	}
}

func TestB1Eval(t *testing.T) {
	b := table(t, 3)
	f := lamps(b)
	for _, c := range []struct {
		at   []bool
		want bool
	}{
		{nil, false}, {[]bool{true}, false}, {[]bool{true, true}, true}, {[]bool{true, true, false}, true}, {[]bool{false, false, true}, true}, {[]bool{false, true, false, true, true}, false},
	} {
		if got := b.Eval(f, c.at); got != c.want {
			t.Errorf("Eval(%v): %v", c.at, got)
		}
	}
	if !b.Eval(b.True(), nil) || b.Eval(b.False(), []bool{true, true, true}) {
		t.Error("the ends are not themselves")
	}
}

// A diagram has far fewer nodes than ways from its top to an end: each is gone through once. (One by one, the ways would take minutes.)
func TestB1Shared(t *testing.T) {
	b := table(t, api.MaxLevels)
	odd, last := b.False(), b.False()
	for i := range api.MaxLevels {
		odd, last = b.Xor(odd, b.Var(i)), b.Xor(last, b.And(b.Var(i), b.Var(i+1)))
	}
	is(t, "Size", b.Size(odd), 47)
	is(t, "Count", b.Count(odd), 1<<23)
	for i := range 50 {
		both := b.And(odd, last)
		if b.Or(both, b.And(odd, b.Not(last))) != odd || b.Exists(odd, []int{i % 24}) != b.True() || b.Forall(b.Or(odd, last), []int{i % 24}) == b.True() {
			t.Fatal("the functions are others")
		}
		if at, ok := b.First(odd); !ok || !at[23] || b.Let(odd, 23, b.True()) == odd {
			t.Fatal("the functions are others")
		}
	}
}

func TestB2Row(t *testing.T) {
	b := table(t, 3)
	f := lamps(b)
	is(t, "Count", b.Count(f), 5)
	if at, ok := b.First(f); !ok || !slices.Equal(at, []bool{false, false, true}) {
		t.Errorf("First: %v, %v", at, ok)
	}
}

func TestB2None(t *testing.T) {
	b := table(t, 5)
	is(t, "Count(False)", b.Count(b.False()), 0)
	is(t, "Count(True)", b.Count(b.True()), 32)
	if at, ok := b.First(b.False()); len(at) != 0 || ok {
		t.Errorf("First(False): %v, %v", at, ok)
	}
	if at, ok := b.First(b.True()); !slices.Equal(at, make([]bool, 5)) || !ok {
		t.Errorf("First(True): %v, %v", at, ok)
	}
}

// The variable 0 is looked at first whatever the order is.
func TestB2FirstTurned(t *testing.T) {
	b := table(t, 2)
	f := b.Or(b.Var(0), b.Var(1))
	b.Swap(0)
	isOrder(t, b, 1, 0)
	if at, ok := b.First(f); !ok || !slices.Equal(at, []bool{false, true}) {
		t.Errorf("First: %v, %v", at, ok)
	}
	is(t, "Count", b.Count(f), 3)
}

func TestB3Row(t *testing.T) {
	b := table(t, 3)
	f := lamps(b)
	is(t, "Size", b.Size(f), 3)
	is(t, "Size of none", b.Size(), 0)
	is(t, "Size of the ends", b.Size(b.False(), b.True()), 0)
	is(t, "Size together", b.Size(f, b.Var(2), f), 3)
	is(t, "Size with another", b.Size(f, b.Var(0), b.Var(2)), 4)
	isOrder(t, b, 0, 1, 2)
	six := table(t, 6)
	is(t, "Size of six", six.Size(pairs(six)), 14)
}

func TestB3Nodes(t *testing.T) {
	b := table(t, 3)
	f := lamps(b)
	// Given out: three variables, the first two together, and f: f has Var(2) for a part, and And and Var(1) are none.
	is(t, "Nodes", b.Nodes(), b.Size(b.Var(0), b.Var(1), b.Var(2), b.And(b.Var(0), b.Var(1)), f))
	is(t, "Nodes", b.Nodes(), 6)
}

// What a call makes on its way is not there behind it.
func TestB3NothingElse(t *testing.T) {
	b := table(t, 12)
	f := pairs(b)
	b.Keep(f)
	all := []bdd.Node{f, b.Exists(f, []int{1, 3, 6}), b.Forall(f, []int{0, 2, 9}), b.Let(f, 3, b.True()), b.Xor(f, b.Var(4)), b.Var(4)}
	is(t, "Nodes", b.Nodes(), b.Size(all...))
	for range 10 {
		for level := range 11 {
			b.Swap(level)
		}
		for level := range 11 {
			b.Swap(10 - level)
		}
	}
	isOrder(t, b, 0, 1, 2, 3, 4, 5, 6, 7, 8, 9, 10, 11)
	is(t, "Nodes there and back", b.Nodes(), b.Size(all...))
}

func TestB4Keep(t *testing.T) {
	b := table(t, 3)
	f, g := lamps(b), b.Xor(b.Var(0), b.Var(1))
	b.Keep(f)
	is(t, "Nodes", b.Nodes(), 3)
	is(t, "Size", b.Size(f), 3)
	if lamps(b) != f || b.Count(f) != 5 {
		t.Error("what is kept is another function")
	}
	g = b.Xor(b.Var(0), b.Var(1))
	is(t, "Count", b.Count(g), 4)
	b.Keep(g, f, g)
	is(t, "Nodes of two", b.Nodes(), b.Size(f, g))
	b.Keep(b.True())
	is(t, "Nodes of an end", b.Nodes(), 0)
	lamps(b)
	b.Keep()
	is(t, "Nodes of none", b.Nodes(), 0)
	if b.Not(b.True()) != b.False() || b.Count(lamps(b)) != 5 {
		t.Error("a table that forgot all makes nothing anew")
	}
}

// A part that was given out is not forgotten, and stays though a turned order has no such part.
func TestB4Part(t *testing.T) {
	b := table(t, 3)
	f, part := lamps(b), b.Var(2)
	b.Keep(f)
	b.Swap(1)
	b.Swap(0)
	isOrder(t, b, 2, 0, 1)
	b.Or(b.Xor(b.Var(1), b.Var(0)), f)
	if b.Var(2) != part || b.Size(part) != 1 || b.Count(part) != 4 || !b.Eval(part, []bool{false, false, true}) {
		t.Error("the part is another function")
	}
	if lamps(b) != f {
		t.Error("the whole is another function")
	}
}

func TestB5Swap(t *testing.T) {
	b := table(t, 3)
	f := lamps(b)
	for _, level := range []int{math.MinInt, -1, 2, 3, math.MaxInt} {
		if b.Swap(level) {
			t.Errorf("Swap(%d) finds two", level)
		}
	}
	isOrder(t, b, 0, 1, 2)
	if !b.Swap(1) {
		t.Error("Swap(1) finds no two")
	}
	isOrder(t, b, 0, 2, 1)
	if !b.Swap(0) {
		t.Error("Swap(0) finds no two")
	}
	isOrder(t, b, 2, 0, 1)
	is(t, "Size", b.Size(f), 3)
	is(t, "Size of a pair", b.Size(b.And(b.Var(0), b.Var(1))), 2)
	if lamps(b) != f || b.Count(f) != 5 {
		t.Error("the function is another")
	}
	one := table(t, 1)
	if one.Swap(0) {
		t.Error("Swap finds two of one")
	}
}

func TestB5Row(t *testing.T) {
	b := table(t, 6)
	f := pairs(b)
	b.Sift(f)
	isOrder(t, b, 0, 3, 4, 1, 5, 2)
	is(t, "Size", b.Size(f), 6)
	if pairs(b) != f {
		t.Error("the function is another")
	}
}

// A variable that no node asks may be anywhere: the topmost place is its.
func TestB5SiftNothing(t *testing.T) {
	b := table(t, 4)
	b.Swap(1)
	b.Sift()
	isOrder(t, b, 3, 2, 1, 0)
	b.Sift(b.True(), b.False())
	isOrder(t, b, 3, 2, 1, 0)
	b.Sift(b.Var(2))
	isOrder(t, b, 3, 1, 0, 2)
}

// What is counted is the nodes of some functions alone, though the table has others.
func TestB5SiftSome(t *testing.T) {
	b := table(t, 6)
	f := pairs(b)
	other := b.Or(b.And(b.Var(0), b.Var(1)), b.Or(b.And(b.Var(2), b.Var(3)), b.And(b.Var(4), b.Var(5))))
	b.Sift(f)
	isOrder(t, b, 0, 3, 4, 1, 5, 2)
	b.Keep(f, other)
	is(t, "Nodes", b.Nodes(), b.Size(f, other))
	is(t, "Count", b.Count(other), 37)
	b.Sift(other)
	is(t, "Size", b.Size(other), 6)
	is(t, "Count", b.Count(f), 37)
}

func TestB5Large(t *testing.T) {
	b := table(t, api.MaxLevels)
	f := pairs(b)
	is(t, "Size", b.Size(f), 8190)
	is(t, "Count", b.Count(f), 1<<24-531441) // none of 12 pairs is so: 3^12
	b.Sift(f)
	is(t, "Size", b.Size(f), 24)
	is(t, "Count", b.Count(f), 1<<24-531441)
	if pairs(b) != f {
		t.Error("the function is another")
	}
	want := make([]bool, 24)
	want[11], want[23] = true, true
	if at, ok := b.First(f); !ok || !slices.Equal(at, want) {
		t.Errorf("First: %v, %v", at, ok)
	}
}

// asked puts every question that takes nodes to a table.
func asked(b *bdd.Table, f, g bdd.Node) {
	b.Ite(f, g, f)
	b.Ite(g, f, g)
	b.Not(f)
	b.And(f, g)
	b.Or(f, g)
	b.Xor(g, f)
	b.Exists(f, []int{0, 1})
	b.Forall(f, []int{1})
	b.Let(f, 0, g)
	b.Let(g, 1, f)
	b.Eval(f, []bool{true})
	b.Size(f, g)
	b.Count(f)
	b.First(f)
	b.Sift(f, g)
	b.Keep(g, f)
}

// Of what is no node nothing is promised but that no call panics, nor harms what is one.
func TestP1NoNode(t *testing.T) {
	for _, f := range []bdd.Node{math.MinInt, -1, 2, 3, 7, 1000, math.MaxInt} {
		b := table(t, 3)
		asked(b, f, b.True())
		asked(b, f, f)
		g := lamps(b)
		asked(b, f, g)
		asked(b, g, f)
		if lamps(b) != g || b.Count(g) != 5 {
			t.Errorf("%d harms another", f)
		}
	}
	b := table(t, 3)
	gone := lamps(b)
	b.Keep()
	asked(b, gone, gone)
	g := b.Xor(b.Var(0), b.Var(2))
	asked(b, gone, g)
	if b.Xor(b.Var(0), b.Var(2)) != g || b.Count(g) != 4 {
		t.Error("what is forgotten harms another")
	}
}

func TestP2Lists(t *testing.T) {
	b := table(t, 3)
	f, g := lamps(b), b.Var(1)
	vars, at, fs := []int{2, 9, 0}, []bool{true, false, true, true}, []bdd.Node{g, -1, f}
	b.Exists(f, vars)
	b.Forall(f, vars)
	b.Eval(f, at)
	b.Size(fs...)
	b.Sift(fs...)
	b.Keep(fs...)
	if !slices.Equal(vars, []int{2, 9, 0}) || !slices.Equal(at, []bool{true, false, true, true}) || !slices.Equal(fs, []bdd.Node{g, -1, f}) {
		t.Errorf("written into: %v %v %v", vars, at, fs)
	}
	order := b.Order()
	was := slices.Clone(order)
	order[0], order[1], order[2] = 9, 9, 9
	isOrder(t, b, was...)
	first, _ := b.First(f)
	first[0] = true
	if again, _ := b.First(f); again[0] {
		t.Error("First is not fresh")
	}
}
