package bound_test

import (
	"fmt"
	"math"
	"slices"
	"testing"

	"sextant/api"
	"sextant/bound"
	"sextant/image"
	"sextant/model"
	"sextant/plain"
	"sextant/sat"
	"sextant/trace"
)

const lamp = `module Lamp
atoms Hands = {left, right}
symmetric Hands
variable on in {false, true}
variable by in Hands union {nil}
init not on and by = nil
action Press == not on and on' = true and by' in Hands
action Go == on and on' = false and by' = nil
fair weak Go
invariant Held == on implies by in Hands
invariant Dark == not on
property Goes == always (on implies eventually not on)
property Rests == eventually always not on
`

// hall ends: 0 goes to 1 and 2, 1 back to 0, 2 to 3; 3 has no step, nor has 4, to which none goes.
const hall = `module Hall
variable n in 0 .. 4
init n = 0
action Out == n = 0 and n' in {1, 2}
action Home == n = 1 and n' = 0
action End == n = 2 and n' = 3
invariant Near == n < 3
invariant In == n /= 4
`

// count goes from 0 up to 69; the last has no step.
const count = `module Count
variable n in 0 .. 69
init n = 0
action Up == n' = n + 1
invariant I64 == n /= 64
invariant I65 == n /= 65
`

// single has one state, and no bits.
const single = `module Single
action Stay == true
invariant Yes == true
invariant No == false
`

// wide has variables of so many values.
func wide(sizes ...int) string {
	text := "module Wide\n"
	for i, size := range sizes {
		text += fmt.Sprintf("variable v%d in 1 .. %d\ninit v%d = 1\n", i, size, i)
	}
	return text + "action Up == v0' = v0 + 1\ninvariant I == v0 < 3\n"
}

func made(t *testing.T, text string) *model.Model {
	t.Helper()
	m, at, err := model.New(text)
	if err != nil {
		t.Fatalf("New(%q): %v at %d", text, err, at)
	}
	return m
}

// formula is clauses that Formula gives.
type formula struct {
	n, bits, k int
	clauses    [][]int
}

// ahead gives Formula's clauses; it tells a test's fault if their variables, or how many there are, are none that D1 allows.
func ahead(t *testing.T, m *model.Model, invariant string, k int) formula {
	t.Helper()
	n, clauses, err := bound.Formula(m, invariant, k)
	f := formula{n, image.Bits(m), k, clauses}
	if err != nil || n < (k+1)*f.bits || n > api.MaxLits || len(clauses) > api.MaxClauses {
		t.Fatalf("Formula(%s, %d): %d variables, %d clauses, %v", invariant, k, n, len(clauses), err)
	}
	for _, c := range clauses {
		for _, l := range c {
			if l == 0 || l > n || l < -n {
				t.Fatalf("Formula(%s, %d): literal %d of %d variables", invariant, k, l, n)
			}
		}
	}
	return f
}

// stand gives the literals that say that a way's states stand at their places.
func (f formula) stand(m *model.Model, way []int) []int {
	var list []int
	for i, s := range way {
		for j, one := range image.Code(m, s) {
			v := i*f.bits + j + 1
			if !one {
				v = -v
			}
			list = append(list, v)
		}
	}
	return list
}

// can tells whether the clauses can be true, if some literals are.
func (f formula) can(t *testing.T, suppose ...int) bool {
	t.Helper()
	solved, err := sat.Solve(f.n, f.clauses, suppose)
	if err != nil {
		t.Fatalf("Solve: %v", err)
	}
	return solved.Sat
}

// stands tells a test's fault if the clauses can be true of a way that they should not be true of, or the other way round.
func stands(t *testing.T, text, invariant string, want bool, way ...int) {
	t.Helper()
	m := made(t, text)
	f := ahead(t, m, invariant, len(way)-1)
	if got := f.can(t, f.stand(m, way)...); got != want {
		t.Errorf("%s: Formula(%s, %d) of %v: %v", text, invariant, f.k, way, got)
	}
}

func TestD1Ways(t *testing.T) {
	stands(t, lamp, "Dark", true, 0, 4)
	stands(t, lamp, "Dark", true, 0, 5)
	stands(t, lamp, "Dark", false, 0, 3) // there is no step
	stands(t, lamp, "Dark", false, 1, 4) // 1 is not initial
	stands(t, lamp, "Dark", false, 0)    // it is dark
	stands(t, lamp, "Dark", false, 3)    // 3 is not initial
	stands(t, lamp, "Dark", true, 0, 5, 0, 4)
	stands(t, lamp, "Dark", false, 0, 5, 0)
	stands(t, lamp, "Held", false, 0, 4, 0, 3)
	stands(t, hall, "Near", true, 0, 1, 0, 2, 3)
}

func TestD1NoStateStays(t *testing.T) {
	stands(t, hall, "Near", true, 0, 2, 3)
	stands(t, hall, "Near", false, 0, 2, 3, 3)
	if m := made(t, hall); ahead(t, m, "Near", 3).can(t) {
		t.Error("to 3 no way has 3 steps")
	}
}

// TestD1NoCode: of two bits of `by`, 1 1 is no value's number.
func TestD1NoCode(t *testing.T) {
	f := ahead(t, made(t, lamp), "Dark", 1)
	for place := range 2 {
		if f.can(t, place*f.bits+2, place*f.bits+3) {
			t.Errorf("at place %d by has the number 3", place)
		}
	}
}

func TestD1AnyBadStateAtTheEnd(t *testing.T) {
	m := made(t, "module M variable n in 0 .. 4 invariant I == n /= 2")
	f := ahead(t, m, "I", 0)
	for s := range 5 {
		if got := f.can(t, f.stand(m, []int{s})...); got != (s == 2) {
			t.Errorf("state %d: %v", s, got)
		}
	}
}

func TestD1OneState(t *testing.T) {
	m := made(t, single)
	for _, k := range []int{0, 1, api.MaxDeep} {
		if f := ahead(t, m, "Yes", k); f.bits != 0 || f.can(t) {
			t.Errorf("Yes with %d: it can be", k)
		}
		if f := ahead(t, m, "No", k); !f.can(t) {
			t.Errorf("No with %d: it cannot be", k)
		}
	}
}

// TestD1NothingInitial: no way begins.
func TestD1NothingInitial(t *testing.T) {
	m := made(t, "module M variable n in 0 .. 4 init false action A == true invariant I == false")
	for k := range 4 {
		if ahead(t, m, "I", k).can(t) {
			t.Errorf("with %d it can be", k)
		}
	}
}

func TestD1Deepest(t *testing.T) {
	m := made(t, count)
	f := ahead(t, m, "I64", api.MaxDeep)
	solved, err := sat.Solve(f.n, f.clauses, nil)
	if err != nil || !solved.Sat {
		t.Fatalf("%v, %v", solved.Sat, err)
	}
	for s := range api.MaxDeep + 1 {
		if got := solved.Model[s*f.bits : (s+1)*f.bits]; !slices.Equal(got, image.Code(m, s)) {
			t.Errorf("state %d: %v", s, got)
		}
	}
	if ahead(t, m, "I65", api.MaxDeep).can(t) {
		t.Error("65 is 64 steps away")
	}
}

// TestD1Great: 4096 states, each of which goes to all others, and to itself not.
func TestD1Great(t *testing.T) {
	m := made(t, "module M variable a in 0 .. 63 variable b in 0 .. 63 init a = 0 and b = 0 action A == a' /= a or b' /= b invariant I == not (a = 3 and b = 5)")
	f := ahead(t, m, "I", api.MaxDeep)
	way := make([]int, api.MaxDeep+1)
	for i := range way {
		way[i] = 61 * i % 4096
	}
	way[api.MaxDeep] = 3*64 + 5
	if !f.can(t, f.stand(m, way)...) {
		t.Errorf("%v is a way", way)
	}
	way[40] = way[39]
	if f.can(t, f.stand(m, way)...) {
		t.Errorf("%v is none", way)
	}
}

func TestD2Shown(t *testing.T) {
	m := made(t, lamp)
	for k := range 10 {
		f := ahead(t, m, "Held", k)
		solved, err := sat.Solve(f.n, f.clauses, nil)
		if err != nil || solved.Sat || !sat.Checked(f.n, f.clauses, solved.Proof) {
			t.Errorf("Held with %d: no proof", k)
		}
	}
	f := ahead(t, m, "Dark", 1)
	if sat.Checked(f.n, f.clauses, []api.Line{{}}) {
		t.Error("Dark with 1: proof of what is not so")
	}
}

// checks tells a test's fault if a shortest way has another number of states; 0: it holds.
func checks(t *testing.T, text, invariant string, k, states int) {
	t.Helper()
	m := made(t, text)
	got, err := bound.Check(m, invariant, k)
	right := got.Loop == -1 && len(got.Trace) == states && got.Holds == (states == 0) && (got.Holds || trace.Breaks(m, invariant, got))
	if err != nil || !right {
		t.Errorf("%s: Check(%s, %d): %+v, %v, want %d states", text, invariant, k, got, err, states)
	}
}

func TestD3Rows(t *testing.T) {
	checks(t, lamp, "Dark", 0, 0)
	checks(t, lamp, "Dark", 1, 2)
	checks(t, lamp, "Held", 9, 0)
	got, _ := bound.Check(made(t, lamp), "Dark", 1)
	if got.Trace[0] != 0 || got.Trace[1] != 4 && got.Trace[1] != 5 {
		t.Errorf("Dark: %v", got.Trace)
	}
}

func TestD3Shortest(t *testing.T) {
	for k := range 6 {
		states := 0
		if k >= 2 {
			states = 3
		}
		checks(t, hall, "Near", k, states)
		checks(t, hall, "In", k, 0)
	}
	checks(t, lamp, "Dark", api.MaxDeep, 2)
	checks(t, single, "No", 0, 1)
	checks(t, single, "No", api.MaxDeep, 1)
	checks(t, single, "Yes", api.MaxDeep, 0)
}

func TestD3Deepest(t *testing.T) {
	checks(t, count, "I64", api.MaxDeep, 65)
	checks(t, count, "I64", api.MaxDeep-1, 0)
	checks(t, count, "I65", api.MaxDeep, 0)
}

// TestD3EachDepth: what is looked for is found just where it is.
func TestD3EachDepth(t *testing.T) {
	text := count
	for n := range 13 {
		text += fmt.Sprintf("invariant J%d == n < %d\n", n, n)
	}
	for n := range 13 {
		for k := range 14 {
			states := 0
			if k >= n {
				states = n + 1
			}
			checks(t, text, fmt.Sprint("J", n), k, states)
		}
	}
}

// inducts tells a test's fault if Induct tells something else.
func inducts(t *testing.T, text, invariant string, k int, base, step bool) {
	t.Helper()
	b, s, err := bound.Induct(made(t, text), invariant, k)
	if err != nil || b != base || s != step {
		t.Errorf("%s: Induct(%s, %d): %v, %v, %v, want %v, %v", text, invariant, k, b, s, err, base, step)
	}
}

func TestD4Rows(t *testing.T) {
	inducts(t, lamp, "Held", 0, true, false)
	inducts(t, lamp, "Held", 1, true, true)
	inducts(t, lamp, "Dark", 1, true, false)
	inducts(t, lamp, "Dark", 2, false, true)
}

func TestD4Edges(t *testing.T) {
	inducts(t, single, "Yes", 0, true, true)
	inducts(t, single, "No", 0, true, false)
	inducts(t, single, "No", 1, false, true)
	inducts(t, single, "Yes", api.MaxDeep, true, true)
	inducts(t, hall, "Near", 2, true, false)
	inducts(t, hall, "Near", 3, false, false) // 1 0 2 3
	inducts(t, hall, "In", 0, true, false)
	inducts(t, hall, "In", 1, true, true) // no step goes to 4
	inducts(t, count, "I64", 64, true, false)
	inducts(t, count, "I65", 64, true, false) // 1 .. 65, which need not be reached
	inducts(t, count+"invariant J == n < 63\n", "J", 63, true, false)
	inducts(t, count+"invariant J == n < 63\n", "J", 64, false, true)
}

// faults tells a test's fault if one of the three tells another error, or anything with it.
func faults(t *testing.T, text, invariant string, k int, want api.Errno) {
	t.Helper()
	m := made(t, text)
	n, clauses, err := bound.Formula(m, invariant, k)
	if n != 0 || clauses != nil || plain.Told(err) != want {
		t.Errorf("%s: Formula(%q, %d): %d, %v, %v, want %v", text, invariant, k, n, clauses, err, want)
	}
	a, err := bound.Check(m, invariant, k)
	if a.Holds || a.Trace != nil || a.Loop != 0 || plain.Told(err) != want {
		t.Errorf("%s: Check(%q, %d): %+v, %v, want %v", text, invariant, k, a, err, want)
	}
	base, step, err := bound.Induct(m, invariant, k)
	if base || step || plain.Told(err) != want {
		t.Errorf("%s: Induct(%q, %d): %v, %v, %v, want %v", text, invariant, k, base, step, err, want)
	}
}

func TestD1Faults(t *testing.T) {
	full := wide(5, 5, 5, 5, 2) // 13 bits
	for _, name := range []string{"", "dark", "Goes", "Press", "on", "not on", "Dark "} {
		faults(t, lamp, name, 1, api.ErrName)
		faults(t, lamp, name, -1, api.ErrName)
		faults(t, full, name, 1, api.ErrName)
		faults(t, full, name, 65, api.ErrName)
	}
	for _, k := range []int{-1, api.MaxDeep + 1, math.MinInt, math.MaxInt} {
		faults(t, lamp, "Dark", k, api.ErrRange)
		faults(t, full, "I", k, api.ErrRange)
	}
	for _, k := range []int{0, 1, api.MaxDeep} {
		faults(t, full, "I", k, api.ErrFull)
	}
}

// TestD1TwelveBits: so many are not too many.
func TestD1TwelveBits(t *testing.T) {
	text := wide(5, 5, 5, 5)
	checks(t, text, "I", 1, 0)
	checks(t, text, "I", 2, 3)
	inducts(t, text, "I", 2, true, false)
	stands(t, text, "I", true, 0, 125, 250)
	stands(t, text, "I", true, 0, 127, 250)
	stands(t, text, "I", false, 1, 125, 250)
}

// TestP2Fresh: what comes out is the caller's.
func TestP2Fresh(t *testing.T) {
	m := made(t, lamp)
	_, first, _ := bound.Formula(m, "Dark", 3)
	kept := make([][]int, len(first))
	for i, c := range first {
		kept[i] = slices.Clone(c)
	}
	for i, c := range first {
		for j := range c {
			c[j] = 0
		}
		_ = append(c, 0)
		for j, other := range first[i+1:] {
			if !slices.Equal(other, kept[i+1+j]) {
				t.Fatalf("clauses %d and %d share memory", i, i+1+j)
			}
		}
	}
	_, again, _ := bound.Formula(m, "Dark", 3)
	if !slices.EqualFunc(again, kept, slices.Equal[[]int]) {
		t.Error("Formula tells something else when it is asked again")
	}
	a, _ := bound.Check(m, "Dark", 3)
	a.Trace[0] = 7
	if b, _ := bound.Check(m, "Dark", 3); b.Trace[0] != 0 {
		t.Error("Check tells something else when it is asked again")
	}
}
