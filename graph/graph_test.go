package graph_test

import (
	"fmt"
	"hash/fnv"
	"math"
	"slices"
	"testing"

	"sextant/api"
	"sextant/graph"
	"sextant/model"
	"sextant/plain"
	"sextant/trace"
)

const lamp = `module Lamp
atoms Hands = {left, right}
symmetric Hands
variable on in {false, true}
variable by in Hands union {nil}
init not on and by = nil
action Press == not on and on' = true and by' in Hands
action Go == on and on' = false and by' = nil
fair weak Go
invariant Held == on implies by in Hands
invariant Dark == not on
property Goes == always (on implies eventually not on)
property Rests == eventually always not on
`

// forks has several shortest ways to most states, and ends in 9.
const forks = `module Forks
variable n in 0 .. 11
init n in {2, 1}
action Up == n < 9 and n' in {n + 2, n + 3}
action Over == n = 1 and n' in {6, 4, 3}
action Down == n = 8 and n' in {0, 8}
invariant Low == n < 9
invariant Six == n /= 6
invariant Two == n /= 2
invariant Most == n < 12
invariant Never == false
invariant Nil == nil
invariant OddHigh == n > 5 implies n % 2 = 0
`

// values has values of all sorts.
const values = `module Values
atoms A = {x, yy}
variable t in {nil, "", "a b", "{}", "x", "a"}
variable i in {nil, -12, 0, 9223372036854775807}
variable s in {nil, {}, {{}}, {{x}, {yy, x}}}
variable f in {<<>>, <<{}, nil>>, [0: {-1}, 1: {1, 2}], [0: nil]}
variable r in {["k": true, "mm": yy]}
variable b in A -> {0}
`

const nothing = "module Nothing init true action A == true"

var wrong = []int{-1, 65, 66, 128, 1 << 32, -64, math.MinInt, math.MaxInt}

func made(t *testing.T, text string) *model.Model {
	t.Helper()
	m, at, err := model.New(text)
	if err != nil {
		t.Fatalf("New(%q): %v at %d", text, err, at)
	}
	return m
}

// same holds lists against each other: an empty list and nil are the same.
func same(t *testing.T, what string, got []int, want ...int) {
	t.Helper()
	if !slices.Equal(got, want) {
		t.Errorf("%s: got %v, want %v", what, got, want)
	}
}

func TestG1Examples(t *testing.T) {
	m := made(t, lamp)
	if got := graph.Digest(m, 0); got != 7498485713667077733 {
		t.Errorf("Digest(0): got %d", got)
	}
	if got := graph.Digest(m, 4); got != 8538902693727323638 {
		t.Errorf("Digest(4): got %d", got)
	}
}

func TestG1Values(t *testing.T) {
	unlike := map[uint64]int{}
	for _, text := range []string{lamp, forks, values, nothing} {
		m := made(t, text)
		for s := range m.Space() {
			h := fnv.New64a()
			for _, v := range m.State(s) {
				h.Write([]byte(v + "\n"))
			}
			if got := graph.Digest(m, s); got != h.Sum64() {
				t.Errorf("%s: Digest(%d): got %d, want %d", text, s, got, h.Sum64())
			}
			unlike[graph.Digest(m, s)]++
		}
	}
	if len(unlike) != 6+12+6*4*4*4+1 {
		t.Errorf("%d digests", len(unlike))
	}
}

func TestG1NoSuchState(t *testing.T) {
	for text, space := range map[string]int{lamp: 6, forks: 12, nothing: 1} {
		m := made(t, text)
		for _, s := range []int{-1, space, space + 1, math.MinInt, math.MaxInt} {
			if got := graph.Digest(m, s); got != 14695981039346656037 {
				t.Errorf("%s: Digest(%d): got %d", text, s, got)
			}
		}
	}
	if got := graph.Digest(made(t, nothing), 0); got != 14695981039346656037 {
		t.Errorf("no variables: got %d", got)
	}
}

func reports(t *testing.T, text string, bits int, want api.Report) {
	t.Helper()
	got, err := graph.Explore(made(t, text), bits)
	if got != want || err != nil {
		t.Errorf("Explore(%s, %d): got %+v, %v, want %+v", text, bits, got, err, want)
	}
}

func TestG2Examples(t *testing.T) {
	reports(t, lamp, 64, api.Report{States: 3, Initial: 1, Edges: 4, Dead: 0, Depth: 1, Clashes: 0})
	reports(t, lamp, 0, api.Report{States: 3, Initial: 1, Edges: 4, Dead: 0, Depth: 1, Clashes: 2})
}

func TestG2Counts(t *testing.T) {
	// 1 to 3 4 6; 2 to 4 5; 3 to 5 6; 4 to 6 7; 5 to 7 8; 6 to 8 9; 7 to 9 10; 8 to 0 8 10 11; 0 to 2 3; 9, 10 and 11 to none.
	reports(t, forks, 64, api.Report{States: 12, Initial: 2, Edges: 21, Dead: 3, Depth: 3, Clashes: 0})
	for _, row := range []struct {
		text string
		want api.Report
	}{
		{nothing, api.Report{States: 1, Initial: 1, Edges: 1}},
		{"module M", api.Report{States: 1, Initial: 1, Dead: 1}},
		{"module M init false action A == true", api.Report{Depth: -1}},
		{"module M init nil", api.Report{Depth: -1}},
		{"module M variable n in 0 .. 4", api.Report{States: 5, Initial: 5, Dead: 5}},
		{"module M variable n in 0 .. 4 init n > 4 action A == true", api.Report{Depth: -1}},
		{"module M variable n in 0 .. 4 action A == true action B == true action C == n' = n", api.Report{States: 5, Initial: 5, Edges: 25}},
		{"module M variable n in 0 .. 4 init n = 2 action A == unchanged n action B == n' = n", api.Report{States: 1, Initial: 1, Edges: 1}},
		{"module M variable n in 0 .. 4 init n = 2 action A == n' = n + 1", api.Report{States: 3, Initial: 1, Edges: 2, Dead: 1, Depth: 2}},
		{"module M variable n in 0 .. 4 init n = 0 action A == n' = n + 1 action B == n' = n + 2", api.Report{States: 5, Initial: 1, Edges: 7, Dead: 1, Depth: 2}},
		{"module M variable n in 0 .. 4 init n in {0, 3} action A == n' = n + 1", api.Report{States: 5, Initial: 2, Edges: 4, Dead: 1, Depth: 2}},
		{"module M variable n in 0 .. 4 init n in {0, 1} action A == n' = (n + 1) % 5", api.Report{States: 5, Initial: 2, Edges: 5, Depth: 3}},
	} {
		reports(t, row.text, 64, row.want)
	}
}

// All but the clashes is the same, however many bits there are.
func TestG2Clashes(t *testing.T) {
	between := 0
	for _, text := range []string{lamp, forks, values, nothing, "module M variable n in 0 .. 4 init false", "module M variable n in 0 .. 200 action A == n' = n + 1"} {
		m := made(t, text)
		whole, _ := graph.Explore(m, 64)
		states := graph.Reached(m)
		for bits := range 65 {
			unlike := map[uint64]int{}
			for _, s := range states {
				rest := graph.Digest(m, s)
				for high := 63; high >= bits; high-- {
					rest &^= 1 << high
				}
				unlike[rest]++
			}
			whole.Clashes = len(states) - len(unlike)
			if whole.Clashes > 0 && len(unlike) > 1 {
				between++
			}
			reports(t, text, bits, whole)
		}
	}
	if between < 10 {
		t.Errorf("only %d where some clash", between)
	}
}

func TestG2Range(t *testing.T) {
	for _, text := range []string{lamp, forks, "module M init false"} {
		for _, bits := range wrong {
			got, err := graph.Explore(made(t, text), bits)
			if got != (api.Report{}) || plain.Told(err) != api.ErrRange {
				t.Errorf("Explore(%s, %d): got %+v, %v", text, bits, got, err)
			}
		}
	}
}

func TestG3Examples(t *testing.T) {
	m := made(t, lamp)
	same(t, "Path(5)", graph.Path(m, 5), 0, 5)
	same(t, "Path(1)", graph.Path(m, 1))
	same(t, "Path(0)", graph.Path(m, 0), 0)
	same(t, "Reached", graph.Reached(m), 0, 4, 5)
}

// Of several shortest ways it is the first, not the one whose last steps come first, nor one from the least state ahead.
func TestG3First(t *testing.T) {
	m := made(t, forks)
	for s, want := range [][]int{{1, 6, 8, 0}, {1}, {2}, {1, 3}, {1, 4}, {2, 5}, {1, 6}, {1, 4, 7}, {1, 6, 8}, {1, 6, 9}, {1, 4, 7, 10}, {1, 6, 8, 11}} {
		same(t, fmt.Sprintf("Path(%d)", s), graph.Path(m, s), want...)
	}
	// 0 to 5, 1 to 4, 4 and 5 to 6 and 3: those from 0 come first, though 4 is less than 5.
	m = made(t, "module M variable n in 0 .. 6 init n < 2 action A == n = 0 and n' = 5 action B == n = 1 and n' = 4 action C == n in {4, 5} and n' in {6, 3}")
	same(t, "Path(6)", graph.Path(m, 6), 0, 5, 6)
	same(t, "Path(3)", graph.Path(m, 3), 0, 5, 3)
	same(t, "Path(4)", graph.Path(m, 4), 1, 4)
	same(t, "Path(2)", graph.Path(m, 2))
}

func TestG3Reached(t *testing.T) {
	for _, row := range []struct {
		text string
		want []int
	}{
		{"module M", []int{0}}, {"module M init false", nil}, {"module M variable n in 0 .. 3", []int{0, 1, 2, 3}}, {"module M variable n in 0 .. 3 init n > 1", []int{2, 3}},
		{"module M variable n in 0 .. 5 init n = 5 action A == n' = n - 2", []int{1, 3, 5}}, {"module M variable n in 0 .. 5 init n = 3 action A == n' in {n + 1, n - 3}", []int{0, 1, 2, 3, 4, 5}},
		{"module M variable n in 0 .. 5 init n = 3 action A == n' = n", []int{3}}, {"module M variable n in 0 .. 5 init n = 9 action A == true", nil},
	} {
		same(t, row.text, graph.Reached(made(t, row.text)), row.want...)
	}
}

func TestG3NoSuchState(t *testing.T) {
	for _, text := range []string{forks, nothing, "module M init false"} {
		for _, s := range []int{-1, 12, 13, math.MinInt, math.MaxInt} {
			same(t, "Path", graph.Path(made(t, text), s))
		}
	}
	same(t, "Path", graph.Path(made(t, nothing), 0), 0)
	same(t, "Path", graph.Path(made(t, "module M init false"), 0))
}

func answers(t *testing.T, what string, got api.Answer, want []int) {
	t.Helper()
	if got.Holds != (want == nil) || got.Loop != -1 || !slices.Equal(got.Trace, want) {
		t.Errorf("%s: got %+v, want %v", what, got, want)
	}
}

// checks looks what Check says of an invariant, with whichever bits; no way is wanted, if it is to hold.
func checks(t *testing.T, text, invariant string, want ...int) {
	t.Helper()
	m := made(t, text)
	for _, bits := range []int{0, 1, 2, 8, 63, 64} {
		got, err := graph.Check(m, invariant, bits)
		if err != nil {
			t.Errorf("%s: %v", invariant, err)
		}
		answers(t, fmt.Sprintf("Check(%s, %d)", invariant, bits), got, want)
		if trace.Breaks(m, invariant, got) == got.Holds {
			t.Errorf("Breaks(%s, %+v)", invariant, got)
		}
	}
}

func TestG4Examples(t *testing.T) {
	checks(t, lamp, "Dark", 0, 4)
	checks(t, lamp, "Held")
}

func TestG4Check(t *testing.T) {
	checks(t, forks, "Low", 1, 6, 9)
	checks(t, forks, "Six", 1, 6)
	checks(t, forks, "Two", 2)
	checks(t, forks, "Most")
	checks(t, forks, "Never", 1)
	checks(t, forks, "Nil", 1)
	checks(t, forks, "OddHigh", 1, 4, 7)
	checks(t, "module M init false invariant I == false", "I")
	checks(t, "module M invariant I == false", "I", 0)
	checks(t, "module M variable n in 0 .. 3 init n = 2 action A == n' = n - 1 invariant I == n < 3 invariant J == n > 0", "I")
	checks(t, "module M variable n in 0 .. 3 init n = 2 action A == n' = n - 1 invariant I == n < 3 invariant J == n > 0", "J", 2, 1, 0)
}

func TestG4Faults(t *testing.T) {
	m := made(t, lamp)
	fails := func(name string, bits int, want api.Errno) {
		t.Helper()
		got, err := graph.Check(m, name, bits)
		if plain.Told(err) != want || got.Holds || got.Trace != nil || got.Loop != 0 {
			t.Errorf("Check(%q, %d): got %+v, %v", name, bits, got, err)
		}
	}
	for _, name := range []string{"", "dark", "Dark ", "Goes", "Rests", "Press", "on", "Hands", "left", "Lamp", "not on", "true", "invariant", "\xff"} {
		for _, bits := range append(wrong, 0, 64) {
			fails(name, bits, api.ErrName)
		}
	}
	for _, bits := range wrong {
		fails("Dark", bits, api.ErrRange)
		fails("Held", bits, api.ErrRange)
	}
}

func TestG4Dead(t *testing.T) {
	for _, row := range []struct {
		text string
		want []int
	}{
		{lamp, nil}, {forks, []int{1, 6, 9}}, {nothing, nil}, {"module M", []int{0}}, {"module M init false", nil}, {"module M action A == false", []int{0}}, {"module M variable n in 0 .. 3 init n > 1", []int{2}},
		{"module M variable n in 0 .. 3 init n = 0 action A == n' = n + 1", []int{0, 1, 2, 3}}, {"module M variable n in 0 .. 3 init n = 0 action A == n' = n + 1 action B == n > 1 and unchanged n", nil},
		{"module M variable n in 0 .. 3 init n = 1 action A == n < 3 and n' in {2, 3} action B == n = 2 and n' = 0 action C == n = 3 and n' = 3 action D == n = 0 and n' = 1", nil},
		{"module M variable n in 0 .. 3 init n = 1 action A == n = 1 and n' in {3, 2} action B == n = 2 and n' = 0", []int{1, 3}},
	} {
		answers(t, row.text, graph.Dead(made(t, row.text)), row.want)
	}
}

func TestP2Fresh(t *testing.T) {
	m := made(t, lamp)
	for range 2 {
		check, _ := graph.Check(m, "Dark", 64)
		for i, list := range [][]int{graph.Reached(m), graph.Path(m, 5), check.Trace} {
			same(t, "fresh", list, [][]int{{0, 4, 5}, {0, 5}, {0, 4}}[i]...)
			for j := range list {
				list[j] = -1
			}
		}
	}
}

// A long chain, and as many states as there may be, each with a step to each.
func TestG2Great(t *testing.T) {
	reports(t, "module M variable h in 0 .. 63 variable l in 0 .. 63 init h = 0 and l = 0 action A == l < 63 and l' = l + 1 and unchanged h action B == l = 63 and l' = 0 and h' = h + 1", 64,
		api.Report{States: 4096, Initial: 1, Edges: 4095, Dead: 1, Depth: 4095})
	reports(t, "module M variable h in 0 .. 63 variable l in 0 .. 63 action A == true", 0, api.Report{States: 4096, Initial: 4096, Edges: 4096 * 4096, Clashes: 4095})
}
