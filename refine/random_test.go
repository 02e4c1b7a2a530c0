package refine_test

import (
	"fmt"
	"math/rand"
	"slices"
	"strings"
	"testing"

	"sextant/graph"
	"sextant/model"
	"sextant/refine"
	"sextant/trace"
)

// drawing is a module over states 0 .. size - 1, with all that it says as lists.
type drawing struct {
	size    int
	initial []int
	goes    [][][]int // by action, by state
	good    []int     // where the invariant is so
}

// some gives some of the numbers below n, each with so many chances of ten.
func some(r *rand.Rand, n, chances int) []int {
	var list []int
	for i := range n {
		if r.Intn(10) < chances {
			list = append(list, i)
		}
	}
	return list
}

func draw(r *rand.Rand) drawing {
	d := drawing{size: 1 + r.Intn(6)}
	d.initial = some(r, d.size, 4)
	crowd := 2 + r.Intn(6)
	for range 1 + r.Intn(2) {
		var rows [][]int
		for range d.size {
			rows = append(rows, some(r, d.size, crowd))
		}
		d.goes = append(d.goes, rows)
	}
	d.good = some(r, d.size, 8)
	return d
}

// drawWithin draws a module that mostly does, by a list, only what another may.
func drawWithin(r *rand.Rand, b drawing, wrong int) (drawing, []int) {
	a := draw(r)
	f := make([]int, a.size)
	for s := range f {
		f[s] = r.Intn(b.size)
		if r.Intn(10) == 0 {
			f[s] = -1
		}
	}
	keep := func(list []int, so func(int) bool) []int {
		return slices.DeleteFunc(list, func(n int) bool { return !so(n) && r.Intn(100) >= wrong })
	}
	a.initial = keep(a.initial, func(s int) bool { return slices.Contains(b.initial, f[s]) })
	for _, rows := range a.goes {
		for s := range rows {
			rows[s] = keep(rows[s], func(u int) bool { return b.may(f[s], f[u]) })
		}
	}
	return a, f
}

func set(list []int) string {
	return "{" + strings.Trim(strings.ReplaceAll(fmt.Sprint(list), " ", ", "), "[]") + "}"
}

func (d drawing) text() string {
	text := fmt.Sprintf("module Drawing\nvariable n in 0 .. %d\ninit n in %s\n", d.size-1, set(d.initial))
	for i, rows := range d.goes {
		parts := []string{"false"}
		for s, row := range rows {
			parts = append(parts, fmt.Sprintf("n = %d and n' in %s", s, set(row)))
		}
		text += fmt.Sprintf("action A%d == %s\n", i, strings.Join(parts, " or "))
	}
	return text + fmt.Sprintf("invariant I == n in %s\n", set(d.good))
}

func (d drawing) has(s, t int) bool {
	return slices.ContainsFunc(d.goes, func(rows [][]int) bool { return slices.Contains(rows[s], t) })
}

// may tells whether, of what two states stand for, both are the same, or there is a step.
func (d drawing) may(s, t int) bool {
	return s == t || s >= 0 && t >= 0 && d.has(s, t)
}

// said writes a list as what n is.
func said(f []int) string {
	var pairs []string
	for s, n := range f {
		pairs = append(pairs, fmt.Sprintf("%d: %d", s, n))
	}
	return "n = [" + strings.Join(pairs, ", ") + "][n]"
}

// ways gives all ways of so many steps of which no state but the last stands twice, the first ones first.
func (d drawing) ways(steps int) [][]int {
	var ways [][]int
	if steps == 0 {
		for _, s := range d.initial {
			ways = append(ways, []int{s})
		}
		return ways
	}
	for _, w := range d.ways(steps - 1) {
		last := w[len(w)-1]
		if slices.Contains(w[:len(w)-1], last) {
			continue
		}
		for t := range d.size {
			if d.has(last, t) {
				ways = append(ways, append(slices.Clone(w), t))
			}
		}
	}
	return ways
}

// wrong is the first of the shortest ways that show that b may not do the same, as R2 says it; nil, if there is none.
func (d drawing) wrong(b drawing, f []int) []int {
	for _, w := range d.ways(0) {
		if !slices.Contains(b.initial, f[w[0]]) {
			return w
		}
	}
	for steps := range d.size {
		for _, w := range d.ways(steps + 1) {
			if !b.may(f[w[steps]], f[w[steps+1]]) {
				return w
			}
		}
	}
	return nil
}

func TestR2Random(t *testing.T) {
	r := rand.New(rand.NewSource(1))
	told := map[int]int{}
	for range 3000 {
		b := draw(r)
		a, f := drawWithin(r, b, 15)
		ma, mb := made(t, a.text()), made(t, b.text())
		list, at, err := refine.Map(ma, mb, said(f))
		if !slices.Equal(list, f) || at != 0 || err != nil {
			t.Fatalf("%s: Map by %s: got %v, %d, %v", a.text(), said(f), list, at, err)
		}
		want := a.wrong(b, f)
		got, at, err := refine.Check(ma, mb, said(f))
		if got.Holds != (want == nil) || !slices.Equal(got.Trace, want) || got.Loop != -1 || at != 0 || err != nil {
			t.Fatalf("%s\n%s\nCheck by %s: got %+v, %d, %v, want %v", a.text(), b.text(), said(f), got, at, err, want)
		}
		told[len(want)]++
	}
	for states, least := range []int{100, 100, 100, 20, 3} {
		if told[states] < least {
			t.Errorf("%d states: seldom: %v", states, told)
		}
	}
}

// follows tells a test's fault if what ways of one module stand for is no way of another, but that this may stay at times.
func follows(t *testing.T, a, b *model.Model, f []int) (moves int) {
	t.Helper()
	for seed := range 5 {
		way := trace.Walk(a, uint64(seed), 12)
		if len(way) == 0 {
			return moves // it begins nowhere
		}
		// Where a has no step, its way stays.
		way = append(way, way[len(way)-1])
		if !trace.Real(a, way) {
			way = way[:len(way)-1]
		}
		over := slices.Compact(refine.Compose(way, f))
		if !trace.Real(b, over) {
			t.Fatalf("%v stands for %v, which is no way", way, over)
		}
		moves += len(over) - 1
	}
	return moves
}

func TestR3Random(t *testing.T) {
	r := rand.New(rand.NewSource(2))
	moves, kept := 0, 0
	for range 1500 {
		b := draw(r)
		a, f := drawWithin(r, b, 2)
		ma, mb := made(t, a.text()), made(t, b.text())
		got, _, err := refine.Check(ma, mb, said(f))
		if err != nil {
			t.Fatal(err)
		}
		if !got.Holds {
			continue
		}
		moves += follows(t, ma, mb, f)
		if holds, err := graph.Check(mb, "I", 64); err != nil || !holds.Holds {
			continue
		}
		for _, s := range graph.Reached(ma) {
			kept++
			if is, _, err := mb.Eval("I", f[s], f[s]); is != "true" || err != nil {
				t.Fatalf("%s\n%s\nby %v: I of %d: %s, %v", a.text(), b.text(), f, s, is, err)
			}
		}
	}
	if moves < 1000 || kept < 200 {
		t.Errorf("seldom: %d moves, %d states", moves, kept)
	}
}

func TestR4Random(t *testing.T) {
	r := rand.New(rand.NewSource(3))
	moves := 0
	for range 1500 {
		c := draw(r)
		b, g := drawWithin(r, c, 0)
		a, f := drawWithin(r, b, 0)
		ma, mb, mc := made(t, a.text()), made(t, b.text()), made(t, c.text())
		for _, two := range []struct {
			low, high *model.Model
			by        []int
		}{{ma, mb, f}, {mb, mc, g}} {
			if got, _, err := refine.Check(two.low, two.high, said(two.by)); err != nil || !got.Holds {
				t.Fatal(got, err)
			}
		}
		whole := refine.Compose(f, g)
		moves += follows(t, ma, mc, whole)
		if got, _, err := refine.Check(ma, mc, said(whole)); err != nil || !got.Holds {
			t.Fatalf("%s\n%s\n%s\nby %v, then %v: %+v, %v", a.text(), b.text(), c.text(), f, g, got, err)
		}
	}
	if moves < 300 {
		t.Errorf("seldom: %d moves", moves)
	}
}

// TestR1Random holds Map against what a's Eval and b's Number say.
func TestR1Random(t *testing.T) {
	r := rand.New(rand.NewSource(4))
	exprs := map[string][]string{
		lamp:   {"on", "by", "nil", "1", "{by}", "{1, 2}", "if on then 1 else 0", "size({by, nil})", "{h, by} union {}", "by = nil", "not on", "left", "{those q in {1, 2} : on or q = 1}", "[0: size({by, left})]", "<<3>>", "\"on\"", "if on then \"x\" else \"w\"", "Held", "on'", "on + 1"},
		shapes: {"s", "f", "w", "size(s)", "w = \"on\"", "f[0]", "f[1]", "domain f", "2 in s", "if s subset {1} then nil else w", "s minus {1}", "f[0 := 1]", "size(s) - 1", "nil", "w'", "{w, s}", "let q = s : q", "choose q in s : true"},
		pair:   {"x", "y", "x * x", "twice", "zero", "A", "x = 1", "y = left", "{x}", "{1, x}", "[0: x]", "[zero: 1]", "<<x + 2>>", "if y = nil then x else 0", "y in A", "if x = 0 then \"x\" else \"on\"", "other", "nil", "unchanged x", "x union y"},
	}
	modules := []string{lamp, shapes, pair, light}
	found := map[string]int{}
	for range 3000 {
		a, b := modules[r.Intn(3)], modules[r.Intn(4)]
		ma, mb := made(t, a), made(t, b)
		names := mb.Variables()
		given, parts := make([]string, len(names)), make([]string, len(names))
		for at, i := range r.Perm(len(names)) {
			given[i] = exprs[a][r.Intn(len(exprs[a]))]
			parts[at] = names[i] + " = " + given[i]
		}
		text := strings.Join(parts, ", ")
		list, at, err := refine.Map(ma, mb, text)
		if err != nil {
			found[fmt.Sprint(err)]++
			if !wrongSomewhere(ma, given) {
				t.Fatalf("Map by %s: %v at %d", text, err, at)
			}
			continue
		}
		for s := range ma.Space() {
			var values []string
			for _, e := range given {
				v, _, err := ma.Eval(e, s, s)
				if err != nil {
					t.Fatalf("Map by %s: no fault, but Eval(%s): %v", text, e, err)
				}
				values = append(values, v)
			}
			if want := mb.Number(values); list[s] != want {
				t.Fatalf("Map by %s: got %v, of %d want %d", text, list, s, want)
			}
			found[fmt.Sprint(list[s] >= 0)]++
		}
		if len(list) != ma.Space() {
			t.Fatalf("Map by %s: got %v", text, list)
		}
	}
	for _, what := range []string{"true", "false", "ErrName", "ErrKind", "ErrLevel"} {
		if found[what] < 50 {
			t.Errorf("%s: seldom: %v", what, found)
		}
	}
}

// wrongSomewhere tells whether one of some expressions has a fault, or speaks of a step.
func wrongSomewhere(m *model.Model, exprs []string) bool {
	return slices.ContainsFunc(exprs, func(e string) bool {
		_, _, err := m.Asked("(" + e + ") = (" + e + ")") // its level, and its kind, come of e's alone
		_, _, also := m.Ready(e)
		return err != nil || also != nil
	})
}
