package trace_test

import (
	"fmt"
	"math"
	"math/rand"
	"slices"
	"strings"
	"testing"

	"sextant/model"
	"sextant/step"
	"sextant/trace"
)

const lamp = `module Lamp
atoms Hands = {left, right}
symmetric Hands
variable on in {false, true}
variable by in Hands union {nil}
init not on and by = nil
action Press == not on and on' = true and by' in Hands
action Go == on and on' = false and by' = nil
fair weak Go
invariant Held == on implies by in Hands
invariant Dark == not on
property Goes == always (on implies eventually not on)
property Rests == eventually always not on
`

// ends has a state, 3, that no action leaves, and one, 4, that an action leaves for itself alone.
const ends = `module Ends
variable n in 0 .. 4
init n in {0, 4}
action Up == n < 3 and n' = n + 1
action Far == n = 0 and n' in {1, 3}
action Stay == n = 4 and unchanged n
`

// bare has one state, and no variables.
const bare = "module Bare action No == false action Yes == true"

// odd has values that look like what stands around them.
const odd = `module Odd
atoms A = {w, back}
variable v in {"a, w = 1", "a", "{", "}", "", "back to 0: -", nil, "<<", "], [", ": ", "1"}
variable i in {1, 12, -1}
variable s in {{"a", "b"}, {}, {"a, w = {", "<"}, {"}"}}
variable f in {<<{1}>>, [0: {1, 2}, 2: {}], <<>>, <<{}, {-1}>>}
variable w2 in {w, back}
init v = "a" and i = 1 and s = {}
action To == i' = i + 11
action back2 == v' = v and i' = i
action Then == w2' = w
`

func made(t *testing.T, text string) *model.Model {
	t.Helper()
	m, at, err := model.New(text)
	if err != nil {
		t.Fatalf("New(%q): %v at %d", text, err, at)
	}
	return m
}

// same holds lists against each other: an empty list and nil are the same.
func same(t *testing.T, what string, got []int, want ...int) {
	t.Helper()
	if !slices.Equal(got, want) {
		t.Errorf("%s: got %v, want %v", what, got, want)
	}
}

// isReal looks whether each of some lists is a way, or is not.
func isReal(t *testing.T, m *model.Model, want bool, lists ...[]int) {
	t.Helper()
	for _, states := range lists {
		if got := trace.Real(m, states); got != want {
			t.Errorf("Real(%v): got %v", states, got)
		}
	}
}

func TestT1Examples(t *testing.T) {
	m := made(t, lamp)
	isReal(t, m, true, []int{0, 4, 0, 5})
	isReal(t, m, false, []int{0, 0}, []int{4}, nil, []int{})
}

func TestT1Real(t *testing.T) {
	m := made(t, lamp)
	isReal(t, m, true, []int{0}, []int{0, 5}, []int{0, 5, 0, 5, 0, 4})
	isReal(t, m, false, []int{0, 1}, []int{0, 3}, []int{0, 4, 5}, []int{0, 4, 4}, []int{3, 0}, []int{0, 4, 1}, []int{0, 4, 0, 4, 0, 0})
}

// Where no action goes anywhere the way stays, and nowhere else.
func TestT1NoStep(t *testing.T) {
	m := made(t, ends)
	isReal(t, m, true, []int{0, 3, 3, 3}, []int{0, 1, 2, 3}, []int{0, 1, 2, 3, 3}, []int{4}, []int{4, 4, 4})
	isReal(t, m, false, []int{0, 0}, []int{0, 1, 1}, []int{0, 2}, []int{3}, []int{3, 3}, []int{0, 3, 4}, []int{0, 3, 2}, []int{4, 3}, []int{4, 0}, []int{0, 3, 3, 0})
	isReal(t, made(t, "module M variable v in 0 .. 1"), true, []int{0, 0}, []int{1}, []int{1, 1, 1})
	isReal(t, made(t, "module M variable v in 0 .. 1"), false, []int{0, 1}, []int{1, 1, 0})
}

func TestT1NoSuchState(t *testing.T) {
	m := made(t, ends)
	for _, n := range []int{-1, 5, 6, 1 << 31, math.MinInt, math.MaxInt} {
		isReal(t, m, false, []int{n}, []int{0, n}, []int{n, 0}, []int{0, 3, n}, []int{n, n}, []int{0, n, n})
	}
}

func TestT1OddModules(t *testing.T) {
	m := made(t, bare)
	isReal(t, m, true, []int{0}, []int{0, 0, 0})
	isReal(t, m, false, nil, []int{1}, []int{0, 1})
	isReal(t, made(t, "module M"), true, []int{0}, []int{0, 0})
	isReal(t, made(t, "module M init false"), false, []int{0}, []int{0, 0})
	isReal(t, made(t, "module M variable v in 0 .. 1 init false action A == true"), false, []int{0}, []int{0, 1})
}

// goesOn tells as T1 says it whether a way goes on from one state to another.
func goesOn(m *model.Model, s, u int) bool {
	next := step.Next(m, s)
	if len(next) == 0 {
		return s == u
	}
	return slices.Contains(next, u)
}

// isWay tells as T1 says it whether states are a way.
func isWay(m *model.Model, states []int) bool {
	if len(states) == 0 || !slices.Contains(step.Initial(m), states[0]) {
		return false
	}
	for i := 1; i < len(states); i++ {
		if !goesOn(m, states[i-1], states[i]) {
			return false
		}
	}
	return true
}

// random is states, at random, most of which go on to the one behind.
func random(r *rand.Rand, m *model.Model, n int) []int {
	states := []int{r.Intn(m.Space())}
	if from := step.Initial(m); len(from) > 0 && r.Intn(3) > 0 {
		states[0] = from[r.Intn(len(from))]
	}
	for len(states) < n {
		last := states[len(states)-1]
		next := step.Next(m, last)
		switch {
		case r.Intn(20) == 0:
			next = []int{r.Intn(m.Space())}
		case len(next) == 0:
			next = []int{last}
		}
		states = append(states, next[r.Intn(len(next))])
	}
	return states
}

func TestT1Random(t *testing.T) {
	r := rand.New(rand.NewSource(1))
	found := map[bool]int{}
	for _, text := range []string{lamp, ends, bare, odd, steps} {
		m := made(t, text)
		for range 300 {
			states := random(r, m, 1+r.Intn(8))
			want := isWay(m, states)
			isReal(t, m, want, states)
			found[want]++
		}
	}
	if found[true] < 200 || found[false] < 200 {
		t.Errorf("too few of a sort: %v", found)
	}
}

func TestT2Examples(t *testing.T) {
	m := made(t, lamp)
	same(t, "Walk(1, 4)", trace.Walk(m, 1, 4), 0, 5, 0, 4)
	same(t, "Walk(2, 3)", trace.Walk(m, 2, 3), 0, 4, 0)
}

// walked is a walk as T2 says it.
func walked(m *model.Model, x uint64, n int) []int {
	var states []int
	of := step.Initial(m)
	for len(states) < n && len(states) < 1000 && len(of) > 0 {
		x = x*6364136223846793005 + 1442695040888963407
		s := of[(x/(1<<33))%uint64(len(of))]
		states = append(states, s)
		of = step.Next(m, s)
	}
	return states
}

func TestT2Walk(t *testing.T) {
	for _, text := range []string{lamp, ends, bare, odd, steps} {
		m := made(t, text)
		for _, seed := range []uint64{0, 1, 2, 3, 4, 5, 1 << 33, 1<<63 - 1, 1 << 63, math.MaxUint64} {
			for _, n := range []int{1, 2, 3, 7, 40} {
				got := trace.Walk(m, seed, n)
				same(t, fmt.Sprintf("%.12s: Walk(%d, %d)", text, seed, n), got, walked(m, seed, n)...)
				isReal(t, m, true, got)
			}
		}
	}
}

func TestT2Ends(t *testing.T) {
	m := made(t, lamp)
	for _, n := range []int{0, -1, -1000, math.MinInt} {
		same(t, fmt.Sprintf("Walk(1, %d)", n), trace.Walk(m, 1, n))
	}
	for _, n := range []int{1000, 1001, 5000, math.MaxInt} {
		got := trace.Walk(m, 1, n)
		same(t, fmt.Sprintf("Walk(1, %d)", n), got, walked(m, 1, 1000)...)
		if len(got) != 1000 {
			t.Errorf("Walk(1, %d): %d states", n, len(got))
		}
	}
	if got := len(trace.Walk(m, 1, 999)); got != 999 {
		t.Errorf("got %d states", got)
	}
	same(t, "no initial state", trace.Walk(made(t, "module M init false action A == true"), 1, 5))
	same(t, "no action", trace.Walk(made(t, "module M"), 1, 5), 0)
	same(t, "one step", trace.Walk(made(t, "module M variable n in 0 .. 1 init n = 0 action A == n' > n"), 7, 5), 0, 1)
}

// Nothing that is handed in is written into, and what comes out is the caller's.
func TestP2Fresh(t *testing.T) {
	m := made(t, lamp)
	for range 2 {
		walk := trace.Walk(m, 1, 4)
		same(t, "Walk", walk, 0, 5, 0, 4)
		read, loop, line, err := trace.Read(m, trace.Show(m, walk, 2))
		if loop != 2 || line != 0 || err != nil {
			t.Errorf("got %d, %d, %v", loop, line, err)
		}
		same(t, "Read", read, walk...)
		trace.Real(m, walk)
		trace.Fair(m, walk, 0)
		if _, _, err := trace.Means(m, "always eventually on", walk, 0); err != nil {
			t.Error(err)
		}
		same(t, "handed in", walk, 0, 5, 0, 4)
		for i := range walk {
			walk[i], read[i] = -1, -1
		}
	}
}

// Ways may be long: the same states come again and again.
func TestP6Long(t *testing.T) {
	m := made(t, lamp)
	var states []int
	for i := range 100000 {
		states = append(states, 0, 4+i%2)
	}
	isReal(t, m, true, states)
	isReal(t, m, false, append(slices.Clone(states), 1))
	text := trace.Show(m, states, 1)
	read, loop, line, err := trace.Read(m, text)
	if !slices.Equal(read, states) || loop != 1 || line != 0 || err != nil {
		t.Errorf("got %d states, %d, %d, %v", len(read), loop, line, err)
	}
	if _, _, line, _ := trace.Read(m, text+"\n"); line != 200002 {
		t.Errorf("got %d", line)
	}
	if got, at, err := trace.Means(m, "always eventually (by = right and enabled Go)", states, 1); !got || at != 0 || err != nil {
		t.Errorf("got %v, %d, %v", got, at, err)
	}
	if !trace.Fair(m, states, 1) || strings.Count(text, "\n") != 200001 {
		t.Error("not fair, or not all shown")
	}
}
