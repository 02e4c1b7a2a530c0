package bound_test

import (
	"fmt"
	"math/rand"
	"slices"
	"strings"
	"testing"

	"sextant/api"
	"sextant/bound"
	"sextant/graph"
	"sextant/image"
	"sextant/sat"
	"sextant/trace"
)

// drawn is a module at random whose steps are listed one by one, and so known apart from it.
type drawn struct {
	text    string
	initial []bool
	good    []bool
	next    [][]int
}

// values writes those of a state whose variables have so many values each, as a sequence.
func values(sizes []int, s int) string {
	list := make([]string, len(sizes))
	for i, size := range slices.Backward(sizes) {
		list[i] = fmt.Sprint(s % size)
		s /= size
	}
	return "<<" + strings.Join(list, ", ") + ">>"
}

// among writes that a state is one of a list; with a mark behind the names, that the one behind it is.
func among(sizes []int, mark string, states []int) string {
	var names, list []string
	for i := range sizes {
		names = append(names, fmt.Sprint("v", i, mark))
	}
	for _, s := range states {
		list = append(list, values(sizes, s))
	}
	return "<<" + strings.Join(names, ", ") + ">> in {" + strings.Join(list, ", ") + "}"
}

// some gives some of the numbers below n, each with so many chances of ten.
func some(r *rand.Rand, n, chances int) (list []int, has []bool) {
	has = make([]bool, n)
	for i := range n {
		if r.Intn(10) < chances {
			list = append(list, i)
			has[i] = true
		}
	}
	return list, has
}

func draw(r *rand.Rand) drawn {
	sizes := [][]int{{1}, {2}, {3}, {5}, {9}, {2, 2}, {3, 2}, {1, 3}, {3, 3}, {2, 1, 5}, {2, 3, 2}}[r.Intn(11)]
	space := 1
	text := "module Drawn\n"
	for i, size := range sizes {
		text += fmt.Sprintf("variable v%d in 0 .. %d\n", i, size-1)
		space *= size
	}
	d := drawn{next: make([][]int, space)}
	initial, has := some(r, space, 1+r.Intn(4))
	d.initial = has
	text += "init " + among(sizes, "", initial) + "\n"
	crowd := 1 + r.Intn(4)
	parts := [2]string{"false", "false"}
	for s := range space {
		// Two actions may have a step in common.
		for a := range parts {
			onto, _ := some(r, space, r.Intn(crowd))
			parts[a] += " or " + among(sizes, "", []int{s}) + " and " + among(sizes, "'", onto)
			d.next[s] = append(d.next[s], onto...)
		}
		slices.Sort(d.next[s])
		d.next[s] = slices.Compact(d.next[s])
	}
	text += "action A == " + parts[0] + "\naction B == " + parts[1] + "\n"
	good, has := some(r, space, 5+r.Intn(5))
	d.good = has
	d.text = text + "invariant I == " + among(sizes, "", good) + "\n"
	return d
}

// ways gives all rows of so many states, each with a step to the next, that begin and go on where it is told that they may.
func (d drawn) ways(states int, may func(at, s int) bool) [][]int {
	var ways [][]int
	for s := range d.next {
		if may(0, s) {
			ways = append(ways, []int{s})
		}
	}
	for at := 1; at < states; at++ {
		var longer [][]int
		for _, w := range ways {
			for _, t := range d.next[w[at-1]] {
				if may(at, t) {
					longer = append(longer, append(slices.Clone(w), t))
				}
			}
		}
		ways = longer
	}
	return ways
}

// toBad gives the ways that D1 speaks of.
func (d drawn) toBad(k int) [][]int {
	return d.ways(k+1, func(at, s int) bool { return (at > 0 || d.initial[s]) && (at < k || !d.good[s]) })
}

// TestD1AtRandom goes through all codes with which the clauses can be true, one by one: they must be those of the ways.
func TestD1AtRandom(t *testing.T) {
	r := rand.New(rand.NewSource(1))
	counts := map[bool]int{}
	for range 400 {
		d := draw(r)
		m := made(t, d.text)
		k := r.Intn(4)
		want := map[string]int{}
		for _, w := range d.toBad(k) {
			want[fmt.Sprint(w)] = 1
		}
		counts[len(want) > 0]++
		if len(want) > 200 {
			continue
		}
		f := ahead(t, m, "I", k)
		for {
			solved, err := sat.Solve(f.n, f.clauses, nil)
			if err != nil {
				t.Fatalf("Solve: %v", err)
			}
			if !solved.Sat {
				break
			}
			var way, block []int
			for place := range k + 1 {
				code := solved.Model[place*f.bits : (place+1)*f.bits]
				s := 0
				for s < m.Space() && !slices.Equal(image.Code(m, s), code) {
					s++
				}
				way = append(way, s)
			}
			if want[fmt.Sprint(way)] != 1 {
				t.Fatalf("%s: Formula(I, %d): %v", d.text, k, way)
			}
			delete(want, fmt.Sprint(way))
			for _, l := range f.stand(m, way) {
				block = append(block, -l)
			}
			f.clauses = append(f.clauses, block)
		}
		if len(want) > 0 {
			t.Fatalf("%s: Formula(I, %d): no value for %v", d.text, k, want)
		}
	}
	if counts[true] < 50 || counts[false] < 50 {
		t.Errorf("too few of one sort: %v", counts)
	}
}

// TestD2AtRandom: the proof that Solve gives is taken just where there is no such way.
func TestD2AtRandom(t *testing.T) {
	r := rand.New(rand.NewSource(2))
	for range 400 {
		d := draw(r)
		k := r.Intn(5)
		f := ahead(t, made(t, d.text), "I", k)
		solved, _ := sat.Solve(f.n, f.clauses, nil)
		none := len(d.toBad(k)) == 0
		if sat.Checked(f.n, f.clauses, solved.Proof) != none {
			t.Fatalf("%s: Formula(I, %d): a proof, or none, where it is not so", d.text, k)
		}
		if sat.Checked(f.n, f.clauses, []api.Line{{}}) && !none {
			t.Fatalf("%s: Formula(I, %d): a proof of what is not so", d.text, k)
		}
	}
}

func TestD3AtRandom(t *testing.T) {
	r := rand.New(rand.NewSource(3))
	for range 1500 {
		d := draw(r)
		m := made(t, d.text)
		k := []int{0, 1, 2, 3, 5, 9, api.MaxDeep}[r.Intn(7)]
		want, _ := graph.Check(m, "I", 64)
		holds := want.Holds || len(want.Trace) > k+1
		got, err := bound.Check(m, "I", k)
		switch {
		case err != nil || got.Holds != holds || got.Loop != -1:
			t.Fatalf("%s: Check(I, %d): %+v, %v, want %+v", d.text, k, got, err, want)
		case holds && got.Trace != nil:
			t.Fatalf("%s: Check(I, %d): holds, with %v", d.text, k, got.Trace)
		case !holds && (len(got.Trace) != len(want.Trace) || !trace.Breaks(m, "I", got)):
			t.Fatalf("%s: Check(I, %d): %v, want one like %v", d.text, k, got.Trace, want.Trace)
		}
	}
}

func TestD4AtRandom(t *testing.T) {
	r := rand.New(rand.NewSource(4))
	counts := map[[2]bool]int{}
	for range 800 {
		d := draw(r)
		m := made(t, d.text)
		k := r.Intn(5)
		base := true
		for fewer := range k {
			base = base && len(d.toBad(fewer)) == 0
		}
		step := len(d.ways(k+1, func(at, s int) bool { return d.good[s] == (at < k) })) == 0
		b, s, err := bound.Induct(m, "I", k)
		if err != nil || b != base || s != step {
			t.Fatalf("%s: Induct(I, %d): %v, %v, %v, want %v, %v", d.text, k, b, s, err, base, step)
		}
		counts[[2]bool{base, step}]++
		if base && step {
			if a, _ := graph.Check(m, "I", 64); !a.Holds {
				t.Fatalf("%s: Induct(I, %d) says that it holds", d.text, k)
			}
		}
	}
	for _, base := range []bool{false, true} {
		for _, step := range []bool{false, true} {
			if counts[[2]bool{base, step}] < 20 {
				t.Errorf("too few: %v", counts)
			}
		}
	}
}
