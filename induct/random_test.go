package induct_test

import (
	"fmt"
	"math/rand"
	"slices"
	"strings"
	"testing"

	"sextant/graph"
	"sextant/image"
	"sextant/induct"
	"sextant/trace"
)

// drawn is a module at random whose steps are listed one by one, and so known apart from it.
type drawn struct {
	text    string
	initial []bool
	good    []bool
	next    [][]int
}

// values writes those of a state whose variables have so many values each, as a sequence.
func values(sizes []int, s int) string {
	list := make([]string, len(sizes))
	for i, size := range slices.Backward(sizes) {
		list[i] = fmt.Sprint(s % size)
		s /= size
	}
	return "<<" + strings.Join(list, ", ") + ">>"
}

// among writes that a state is one of a list; with a mark behind the names, that the one behind it is.
func among(sizes []int, mark string, states []int) string {
	var names, list []string
	for i := range sizes {
		names = append(names, fmt.Sprint("v", i, mark))
	}
	for _, s := range states {
		list = append(list, values(sizes, s))
	}
	return "<<" + strings.Join(names, ", ") + ">> in {" + strings.Join(list, ", ") + "}"
}

// some gives some of the numbers below n, each with so many chances of ten.
func some(r *rand.Rand, n, chances int) (list []int, has []bool) {
	has = make([]bool, n)
	for i := range n {
		if r.Intn(10) < chances {
			list = append(list, i)
			has[i] = true
		}
	}
	return list, has
}

func draw(r *rand.Rand) drawn {
	sizes := [][]int{{1}, {2}, {3}, {5}, {11}, {16}, {2, 2}, {3, 2}, {1, 3}, {3, 3}, {2, 1, 5}, {2, 3, 2}, {2, 2, 2, 2}}[r.Intn(13)]
	space := 1
	text := "module Drawn\n"
	for i, size := range sizes {
		text += fmt.Sprintf("variable v%d in 0 .. %d\n", i, size-1)
		space *= size
	}
	d := drawn{next: make([][]int, space)}
	initial, has := some(r, space, 1+r.Intn(2))
	d.initial = has
	text += "init " + among(sizes, "", initial) + "\n"
	crowd := 1 + r.Intn(3)
	whole := "false"
	for s := range space {
		onto, _ := some(r, space, r.Intn(crowd))
		whole += " or " + among(sizes, "", []int{s}) + " and " + among(sizes, "'", onto)
		d.next[s] = onto
	}
	text += "action A == " + whole + "\n"
	good, has := some(r, space, 6+r.Intn(4))
	d.good = has
	d.text = text + "invariant I == " + among(sizes, "", good) + "\n"
	return d
}

// shows is as N1 says.
func (d drawn) shows(code func(s int) []bool, clauses [][]int) bool {
	so := make([]bool, len(d.next))
	for s := range so {
		so[s] = true
		for _, c := range clauses {
			one := false
			for _, l := range c {
				one = one || l > 0 && code(s)[l-1] || l < 0 && !code(s)[-l-1]
			}
			so[s] = so[s] && one
		}
	}
	for s := range so {
		if d.initial[s] && !so[s] || so[s] && !d.good[s] {
			return false
		}
		for _, t := range d.next[s] {
			if so[s] && !so[t] {
				return false
			}
		}
	}
	return true
}

// clauses draws some over so many bits; they need have nothing to do with one another.
func clauses(r *rand.Rand, bits int) [][]int {
	var list [][]int
	for range r.Intn(4) {
		c := []int{}
		for range r.Intn(4) {
			if bits > 0 {
				c = append(c, (1+r.Intn(bits))*(1-2*r.Intn(2)))
			}
		}
		list = append(list, c)
	}
	return list
}

// TestN1AtRandom asks of clauses of any sort, and of such as show it, with something more, or less, or changed.
func TestN1AtRandom(t *testing.T) {
	r := rand.New(rand.NewSource(1))
	counts := map[bool]int{}
	for range 600 {
		d := draw(r)
		m := made(t, d.text)
		bits := image.Bits(m)
		code := func(s int) []bool { return image.Code(m, s) }
		sealed, _ := induct.Check(m, "I")
		for range 6 {
			list := clauses(r, bits)
			if r.Intn(3) > 0 {
				list = append(list, sealed.Clauses...)
			}
			if r.Intn(3) == 0 && len(list) > 0 {
				i := r.Intn(len(list))
				list[i] = append(slices.Clone(list[i]), slices.Concat(clauses(r, bits)...)...)
			}
			want := d.shows(code, list)
			got, err := induct.Certified(m, "I", list)
			if err != nil || got != want {
				t.Fatalf("%s: Certified(I, %v): %v, %v, want %v", d.text, list, got, err, want)
			}
			counts[got]++
		}
	}
	if counts[true] < 200 || counts[false] < 200 {
		t.Errorf("too few of one sort: %v", counts)
	}
}

// TestN2AtRandom: all agree, and from the clauses nothing can be left out.
func TestN2AtRandom(t *testing.T) {
	r := rand.New(rand.NewSource(2))
	counts := map[string]int{}
	for range 2500 {
		d := draw(r)
		m := made(t, d.text)
		want, _ := graph.Check(m, "I", 64)
		if want.Holds {
			list := seals(t, m, "I")
			counts[fmt.Sprint("clauses ", min(len(list), 3))]++
			continue
		}
		got, err := induct.Check(m, "I")
		if err != nil || got.Clauses != nil || len(got.Answer.Trace) != len(want.Trace) || !trace.Breaks(m, "I", got.Answer) {
			t.Fatalf("%s: Check(I): %+v, %v, want one like %+v", d.text, got, err, want)
		}
		counts[fmt.Sprint("states ", min(len(want.Trace), 3))]++
	}
	for _, what := range []string{"clauses 0", "clauses 1", "clauses 2", "clauses 3", "states 1", "states 2", "states 3"} {
		if counts[what] < 20 {
			t.Errorf("too few: %v", counts)
		}
	}
}
