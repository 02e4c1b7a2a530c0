package sat_test

import (
	"fmt"
	"math/rand"
	"slices"
	"testing"

	"sextant/api"
	"sextant/sat"
)

// followed is C2 word by word: what is true, or that it cannot be.
func followed(clauses [][]int, given []int) (map[int]int, bool) {
	so := map[int]int{}
	for _, v := range given {
		so[v] = 1
	}
	for {
		before := len(so)
		for v := range so {
			if so[-v] == 1 {
				return nil, false
			}
		}
		for _, c := range clauses {
			left := map[int]int{}
			isSo := false
			for _, v := range c {
				isSo = isSo || so[v] == 1
				if so[-v] == 0 {
					left[v] = 1
				}
			}
			if !isSo && len(left) == 0 {
				return nil, false
			}
			if !isSo && len(left) == 1 {
				for v := range left {
					so[v] = 1
				}
			}
		}
		if len(so) == before {
			return so, true
		}
	}
}

// literals gives what is true, by its variables.
func literals(n int, so map[int]int) []int {
	var list []int
	for v := range n {
		for _, l := range []int{v + 1, -(v + 1)} {
			if so[l] == 1 {
				list = append(list, l)
			}
		}
	}
	return list
}

// set gives the literals of a clause, each once, ascending.
func set(c []int) []int {
	c = slices.Clone(c)
	slices.Sort(c)
	return slices.Compact(c)
}

// checked is C4 word by word; it tells also how many lines were gone through.
func checked(clauses [][]int, proof []api.Line) (bool, int) {
	there := slices.Clone(clauses)
	shown := false
	for k, line := range proof {
		if line.Gone {
			if i := slices.IndexFunc(there, func(c []int) bool { return slices.Equal(set(c), set(line.Clause)) }); i >= 0 {
				there = slices.Delete(there, i, i+1)
			}
			continue
		}
		var no []int
		for _, v := range line.Clause {
			no = append(no, -v)
		}
		if _, can := followed(there, no); can {
			return false, k
		}
		there = append(there, line.Clause)
		shown = shown || len(line.Clause) == 0
	}
	return shown, len(proof)
}

// canBe tells, value by value, whether clauses can all be true.
func canBe(n int, clauses [][]int) bool {
	values := make([]bool, n)
	for k := range 1 << n {
		for i := range values {
			values[i] = k>>i&1 == 1
		}
		if makesTrue(values, clauses) {
			return true
		}
	}
	return false
}

// drawing draws clauses at random.
type drawing struct {
	*rand.Rand
	n int
}

// literal draws one.
func (d drawing) literal() int {
	return (d.Intn(d.n) + 1) * (1 - 2*d.Intn(2))
}

// list draws so many literals.
func (d drawing) list(many int) []int {
	var list []int
	for range many {
		if d.n > 0 {
			list = append(list, d.literal())
		}
	}
	return list
}

// formula draws clauses of one literal to five, few of none.
func (d drawing) formula() [][]int {
	var c [][]int
	for range d.Intn(5*d.n + 2) {
		many := []int{1, 2, 2, 2, 3, 3, 3, 3, 3, 4, 5}[d.Intn(11)]
		if d.Intn(200) == 0 {
			many = 0
		}
		c = append(c, d.list(many))
	}
	return c
}

// threes draws clauses of three variables, so many for each of all: little follows of them one by one.
func (d drawing) threes(many int) [][]int {
	var c [][]int
	for range many * d.n {
		vars := d.Perm(d.n)[:3]
		for i := range vars {
			vars[i] = (vars[i] + 1) * (1 - 2*d.Intn(2))
		}
		c = append(c, vars)
	}
	return c
}

// otherwise gives a clause's literals in another order, some of them once more.
func (d drawing) otherwise(c []int) []int {
	other := slices.Clone(c)
	for range d.Intn(3) {
		if len(c) > 0 {
			other = append(other, c[d.Intn(len(c))])
		}
	}
	d.Shuffle(len(other), func(i, j int) { other[i], other[j] = other[j], other[i] })
	return other
}

// proof draws lines: a real proof's ones, with others among them, and with some left out or turned about.
func (d drawing) proof(clauses [][]int, real []api.Line) []api.Line {
	var proof []api.Line
	some := func() []int {
		if k := d.Intn(len(clauses) + len(proof) + 1); k < len(clauses) {
			return clauses[k]
		} else if k -= len(clauses); k < len(proof) {
			return proof[k].Clause
		}
		return nil
	}
	for _, line := range real {
		for d.Intn(3) == 0 {
			switch d.Intn(6) {
			case 0:
				proof = append(proof, api.Line{Clause: d.list(d.Intn(4))})
			case 1, 2:
				proof = append(proof, api.Line{Clause: append(d.otherwise(some()), d.list(d.Intn(2))...)})
			case 3, 4:
				proof = append(proof, api.Line{Gone: true, Clause: d.otherwise(some())})
			case 5:
				proof = append(proof, api.Line{Gone: true, Clause: d.list(d.Intn(3))})
			}
		}
		if d.Intn(12) > 0 {
			proof = append(proof, api.Line{Gone: line.Gone, Clause: d.otherwise(line.Clause)})
		}
	}
	return proof
}

func TestC2Random(t *testing.T) {
	d := drawing{Rand: rand.New(rand.NewSource(1))}
	seen := map[bool]int{}
	for range 6000 {
		d.n = d.Intn(9)
		c, given := d.formula(), d.list(d.Intn(4))
		if d.Intn(2) == 0 {
			c = c[:len(c)/2]
		}
		list, ok, err := sat.Follow(d.n, c, given)
		so, can := followed(c, given)
		if err != nil || ok != can || !slices.Equal(list, literals(d.n, so)) {
			t.Fatalf("Follow(%d, %v, %v): %v, %v, %v, want %v, %v", d.n, c, given, list, ok, err, literals(d.n, so), can)
		}
		if len(list) > len(given)+1 || !ok {
			seen[ok]++
		}
	}
	if seen[true] < 500 || seen[false] < 500 {
		t.Errorf("this test looks at little: %v", seen)
	}
}

func TestC3Random(t *testing.T) {
	d := drawing{Rand: rand.New(rand.NewSource(2))}
	seen := map[string]int{}
	for range 4000 {
		d.n = d.Intn(9)
		c := d.formula()
		if d.Intn(2) == 0 {
			d.n = 8 + d.Intn(4)
			c = d.threes(1 + d.Intn(6))
		}
		suppose := d.list(d.Intn(7))
		r := solved(t, d.n, c, suppose)
		if want := canBe(d.n, units(c, suppose)); r.Sat != want {
			t.Fatalf("Solve(%d, %v, %v): Sat %v", d.n, c, suppose, r.Sat)
		}
		if r.Sat {
			seen["some"]++
			continue
		}
		if canBe(d.n, units(c, r.Core)) {
			t.Fatalf("Solve(%d, %v, %v): core %v can be", d.n, c, suppose, r.Core)
		}
		if shown, _ := checked(units(c, r.Core), r.Proof); !shown {
			t.Fatalf("Solve(%d, %v, %v): %v shows nothing, core %v", d.n, c, suppose, r.Proof, r.Core)
		}
		seen[fmt.Sprint("core ", min(len(r.Core), 3))]++
		if len(r.Proof) > 3 {
			seen["long"]++
		}
		if len(r.Core) < len(set(suppose)) {
			seen["less"]++
		}
	}
	for _, of := range []string{"some", "core 0", "core 1", "core 2", "core 3", "long", "less"} {
		if seen[of] < 40 {
			t.Errorf("this test looks at little: %s %d", of, seen[of])
		}
	}
}

// Where clauses are many, that Solve is right is told by its values, and by Checked.
func TestC3Hard(t *testing.T) {
	d := drawing{Rand: rand.New(rand.NewSource(3))}
	seen := map[bool]int{}
	for range 60 {
		d.n = 60 + d.Intn(60)
		var c [][]int
		for range d.n * 43 / 10 {
			c = append(c, d.list(3))
		}
		r := solved(t, d.n, c, d.list(d.Intn(3)))
		seen[r.Sat]++
	}
	if seen[true] < 10 || seen[false] < 10 {
		t.Errorf("this test looks at little: %v", seen)
	}
}

func TestC4Random(t *testing.T) {
	d := drawing{Rand: rand.New(rand.NewSource(4))}
	seen := map[string]int{}
	for range 6000 {
		d.n = 1 + d.Intn(7)
		c := d.formula()
		if d.Intn(2) == 0 {
			d.n = 7 + d.Intn(5)
			c = d.threes(5 + d.Intn(2))
		}
		r := solved(t, d.n, c, nil)
		for again := 0; r.Sat && again < 3; again++ { // so that most cannot be
			c = append(c, d.formula()...)
			r = solved(t, d.n, c, nil)
		}
		proof := d.proof(c, r.Proof)
		if d.Intn(2) == 0 {
			proof = d.proof(c, append(proof, r.Proof...))
		}
		want, through := checked(c, proof)
		if got := sat.Checked(d.n, c, proof); got != want {
			t.Fatalf("Checked(%d, %v, %v): %v", d.n, c, proof, got)
		}
		if want && canBe(d.n, c) {
			t.Fatalf("C5: Checked(%d, %v, %v), and yet it can be", d.n, c, proof)
		}
		seen[fmt.Sprint("shown ", want)]++
		if slices.ContainsFunc(proof[:through], func(l api.Line) bool { return l.Gone }) {
			seen[fmt.Sprint("gone, shown ", want)]++
		}
		if through > 4 && through < len(proof) {
			seen["refused late"]++
		}
	}
	for _, of := range []string{"shown true", "shown false", "gone, shown true", "gone, shown false", "refused late"} {
		if seen[of] < 300 {
			t.Errorf("this test looks at little: %s %d", of, seen[of])
		}
	}
}
