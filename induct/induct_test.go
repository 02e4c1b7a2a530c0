package induct_test

import (
	"fmt"
	"math"
	"slices"
	"testing"

	"sextant/api"
	"sextant/graph"
	"sextant/induct"
	"sextant/model"
	"sextant/plain"
	"sextant/trace"
)

const lamp = `module Lamp
atoms Hands = {left, right}
symmetric Hands
variable on in {false, true}
variable by in Hands union {nil}
init not on and by = nil
action Press == not on and on' = true and by' in Hands
action Go == on and on' = false and by' = nil
fair weak Go
invariant Held == on implies by in Hands
invariant Dark == not on
property Goes == always (on implies eventually not on)
property Rests == eventually always not on
`

// hall ends: 0 goes to 1 and 2, 1 back to 0, 2 to 3; 3 has no step; 4 goes to 5, and to both none goes.
const hall = `module Hall
variable n in 0 .. 5
init n = 0
action Out == n = 0 and n' in {1, 2}
action Home == n = 1 and n' = 0
action End == n = 2 and n' = 3
action Off == n = 4 and n' = 5
invariant Near == n < 3
invariant In == n /= 5
invariant All == n < 9
`

// single has one state, and no bits.
const single = `module Single
action Stay == true
invariant Yes == true
invariant No == false
`

// never has no initial state.
const never = `module Never
variable n in 0 .. 4
init false
action Up == n' = n + 1
invariant Yes == true
invariant No == false
invariant Low == n < 3
`

// counter counts two numbers up at once, and begins again behind the last one.
func counter(last int) string {
	return fmt.Sprintf(`module Counter
constant last = %d
variable a in 0 .. last
variable b in 0 .. last
init a = 0 and b = 0
action Up == a' = (a + 1) %% (last + 1) and b' = (b + 1) %% (last + 1)
invariant Same == a = b
invariant Apart == not (a = 2 and b = 4)
invariant Below == a < last
`, last)
}

// wide has variables of so many values.
func wide(sizes ...int) string {
	text := "module Wide\n"
	for i, size := range sizes {
		text += fmt.Sprintf("variable v%d in 1 .. %d\ninit v%d = 1\n", i, size, i)
	}
	return text + "action Up == v0' = v0 and v1' = v1\ninvariant I == v0 < 3\n"
}

func made(t *testing.T, text string) *model.Model {
	t.Helper()
	m, at, err := model.New(text)
	if err != nil {
		t.Fatalf("New(%q): %v at %d", text, err, at)
	}
	return m
}

// certifies tells a test's fault if Certified tells something else.
func certifies(t *testing.T, text, invariant string, want bool, clauses ...[]int) {
	t.Helper()
	got, err := induct.Certified(made(t, text), invariant, clauses)
	if err != nil || got != want {
		t.Errorf("%s: Certified(%s, %v): %v, %v, want %v", text, invariant, clauses, got, err, want)
	}
}

func TestN1Rows(t *testing.T) {
	certifies(t, lamp, "Held", true, []int{-1, 2, 3})
	certifies(t, lamp, "Held", false)
	certifies(t, lamp, "Held", false, []int{-1})
	certifies(t, lamp, "Dark", false, []int{-1})
}

// TestN1EachPart: clauses fail for one reason alone.
func TestN1EachPart(t *testing.T) {
	certifies(t, hall, "In", true, []int{-1})                       // 0 .. 3
	certifies(t, hall, "In", false, []int{-1}, []int{1})            // 0, which is initial, is none of them
	certifies(t, hall, "In", false, []int{-1}, []int{-2, -3})       // 2 goes to 3, which is none of them
	certifies(t, hall, "In", false, []int{-1, -3})                  // 4, which is not reached, goes to 5
	certifies(t, hall, "In", false)                                 // it is not so of 5
	certifies(t, hall, "Near", false, []int{-1})                    // it is not so of 3
	certifies(t, hall, "Near", false, []int{-1}, []int{-2, -3})     // 3 is none of them, but 2 goes there
	certifies(t, hall, "All", true)                                 // it is so of all
	certifies(t, hall, "All", false, []int{})                       // nothing is left, not even 0
	certifies(t, hall, "In", true, []int{-1}, []int{-1}, []int{-1}) // the same again
	certifies(t, hall, "In", true, []int{-1, -1, -1}, []int{2, -2}) // and what is always true
	certifies(t, hall, "In", true, []int{-1}, []int{-1, -2}, []int{3, -1})
}

// TestN1StatesAlone: what is true of codes that are no state's makes no difference.
func TestN1StatesAlone(t *testing.T) {
	certifies(t, lamp, "Held", true, []int{-1, 2, 3}, []int{-2, -3})
	certifies(t, hall, "All", true, []int{-1, -2})
}

func TestN1NoLiteral(t *testing.T) {
	for _, l := range []int{0, 4, -4, math.MaxInt, math.MinInt} {
		certifies(t, lamp, "Held", false, []int{-1, 2, 3}, []int{1, -1, l})
		certifies(t, lamp, "Held", false, []int{l, -1, 2, 3})
		certifies(t, hall, "All", false, []int{1, -1, l})
	}
	certifies(t, single, "Yes", false, []int{1})
	certifies(t, single, "Yes", false, []int{-1})
	certifies(t, never, "Yes", false, []int{}, []int{4})
}

func TestN1Edges(t *testing.T) {
	certifies(t, single, "Yes", true)
	certifies(t, single, "Yes", false, []int{})
	certifies(t, single, "No", false)
	certifies(t, single, "No", false, []int{})
	certifies(t, never, "No", true, []int{})
	certifies(t, never, "No", false)
	certifies(t, never, "Low", true, []int{1}, []int{-1})
	certifies(t, never, "Low", false, []int{-1}, []int{-2, -3}) // 2 goes to 3
}

// seals gives what Check tells of an invariant that holds; it tells a test's fault if it tells that it does not, or if the clauses do not show it, or if something can be left out of them.
func seals(t *testing.T, m *model.Model, invariant string) [][]int {
	t.Helper()
	got, err := induct.Check(m, invariant)
	if err != nil || !got.Answer.Holds || got.Answer.Trace != nil || got.Answer.Loop != -1 {
		t.Fatalf("Check(%s): %+v, %v", invariant, got, err)
	}
	shows := func(clauses [][]int) bool {
		so, err := induct.Certified(m, invariant, clauses)
		if err != nil {
			t.Fatalf("Certified(%s, %v): %v", invariant, clauses, err)
		}
		return so
	}
	if !shows(got.Clauses) {
		t.Fatalf("Check(%s): %v do not show it", invariant, got.Clauses)
	}
	for i, c := range got.Clauses {
		fewer := slices.Clone(got.Clauses)
		if shows(slices.Delete(slices.Clone(got.Clauses), i, i+1)) {
			t.Fatalf("Check(%s): of %v the clause %v can be left out", invariant, got.Clauses, c)
		}
		for j, l := range c {
			fewer[i] = slices.Delete(slices.Clone(c), j, j+1)
			if shows(fewer) {
				t.Fatalf("Check(%s): of %v in %v %d can be left out", invariant, got.Clauses, c, l)
			}
		}
	}
	return got.Clauses
}

// breaks tells a test's fault if Check tells that an invariant holds, or no way, or one with another number of states.
func breaks(t *testing.T, m *model.Model, invariant string, states int) {
	t.Helper()
	got, err := induct.Check(m, invariant)
	if err != nil || got.Clauses != nil || len(got.Answer.Trace) != states || !trace.Breaks(m, invariant, got.Answer) {
		t.Errorf("Check(%s): %+v, %v, want %d states", invariant, got, err, states)
	}
}

func TestN2Lamp(t *testing.T) {
	m := made(t, lamp)
	if got := seals(t, m, "Held"); !slices.EqualFunc(got, [][]int{{-1, 2, 3}}, slices.Equal[[]int]) {
		t.Errorf("Held: %v", got) // there is no other: all that can be left out of [-1 2 3], and all other clauses, are false of what can be reached
	}
	breaks(t, m, "Dark", 2)
}

func TestN2Edges(t *testing.T) {
	rows := []struct {
		text, invariant string
		clauses         int
	}{
		{single, "Yes", 0},
		{never, "Yes", 0},
		{never, "No", 1},
		{never, "Low", 1},
		{hall, "All", 0},
		{hall, "In", 1},
	}
	for _, r := range rows {
		if got := seals(t, made(t, r.text), r.invariant); len(got) != r.clauses {
			t.Errorf("%s: Check(%s): %v", r.text, r.invariant, got)
		}
	}
	breaks(t, made(t, single), "No", 1)
	breaks(t, made(t, hall), "Near", 3)
}

func TestN2Great(t *testing.T) {
	seals(t, made(t, counter(9)), "Apart")
	m := made(t, counter(63)) // 4096 states
	seals(t, m, "Same")
	breaks(t, m, "Below", 64)
}

// faults tells a test's fault if one of both tells another error, or anything with it.
func faults(t *testing.T, text, invariant string, want api.Errno) {
	t.Helper()
	m := made(t, text)
	for _, clauses := range [][][]int{nil, {{-1, 2, 3}}, {{0}}} {
		if so, err := induct.Certified(m, invariant, clauses); so || plain.Told(err) != want {
			t.Errorf("%s: Certified(%q, %v): %v, %v, want %v", text, invariant, clauses, so, err, want)
		}
	}
	got, err := induct.Check(m, invariant)
	if got.Clauses != nil || got.Answer.Holds || got.Answer.Trace != nil || got.Answer.Loop != 0 || plain.Told(err) != want {
		t.Errorf("%s: Check(%q): %+v, %v, want %v", text, invariant, got, err, want)
	}
}

func TestN1Faults(t *testing.T) {
	full := wide(5, 5, 5, 5, 2) // 13 bits
	for _, name := range []string{"", "held", "Goes", "Press", "on", "not on", "Held "} {
		faults(t, lamp, name, api.ErrName)
		faults(t, full, name, api.ErrName)
	}
	faults(t, full, "I", api.ErrFull)
	m := made(t, wide(5, 5, 5, 5)) // 12 bits: so many are not too many
	for _, c := range seals(t, m, "I") {
		for _, l := range c {
			if l == 0 || l < -12 || l > 12 {
				t.Errorf("literal %d", l)
			}
		}
	}
}

// TestP2Lists: what is handed in is not written into, and what comes out is the caller's.
func TestP2Lists(t *testing.T) {
	m := made(t, counter(20))
	clauses := [][]int{{3, -2, 2, 1}, {1, 1, 1}, {}}
	induct.Certified(m, "Same", clauses)
	if fmt.Sprint(clauses) != "[[3 -2 2 1] [1 1 1] []]" {
		t.Errorf("what is handed in becomes %v", clauses)
	}
	first, _ := induct.Check(m, "Same")
	told := fmt.Sprint(first)
	for i, c := range first.Clauses {
		kept := fmt.Sprint(first.Clauses[i+1:])
		for j := range c {
			c[j] = 0
		}
		_ = append(c, 0)
		if fmt.Sprint(first.Clauses[i+1:]) != kept {
			t.Errorf("clause %d shares memory with others", i)
		}
	}
	if again, _ := induct.Check(m, "Same"); fmt.Sprint(again) != told {
		t.Errorf("Check tells something else when it is asked again: %v", again)
	}
	broken, _ := induct.Check(m, "Below")
	want, _ := graph.Check(m, "Below", 64)
	if fmt.Sprint(broken.Answer) != fmt.Sprint(want) {
		t.Errorf("Below: %v, want %v", broken.Answer, want)
	}
}
