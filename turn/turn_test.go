package turn_test

import (
	"fmt"
	"math"
	"slices"
	"testing"

	"sextant/api"
	"sextant/graph"
	"sextant/model"
	"sextant/plain"
	"sextant/step"
	"sextant/trace"
	"sextant/turn"
)

const lamp = `module Lamp
atoms Hands = {left, right}
symmetric Hands
variable on in {false, true}
variable by in Hands union {nil}
init not on and by = nil
action Press == not on and on' = true and by' in Hands
action Go == on and on' = false and by' = nil
fair weak Go
invariant Held == on implies by in Hands
invariant Dark == not on
property Goes == always (on implies eventually not on)
property Rests == eventually always not on
`

// three has states numbered as its atoms are, ascending.
const three = "module M atoms A = {x, y, z} symmetric A variable v in A"

// ring hands a token on to any that did not have it yet.
const ring = `module Ring
atoms Who = {ann, bob, cy, dee}
symmetric Who
variable has in Who
variable had in powerset Who
init had = {}
action Hand == had' = had union {has} and has' in Who minus had minus {has}
action Again == had = Who minus {has} and had' = {} and unchanged has
invariant Not == not (has in had)
invariant Few == size(had) < 3
invariant Two == size(had) /= 2
invariant Begun == had /= {}
invariant Nil == nil
`

func made(t *testing.T, text string) *model.Model {
	t.Helper()
	m, at, err := model.New(text)
	if err != nil {
		t.Fatalf("New(%q): %v at %d", text, err, at)
	}
	return m
}

// same holds lists against each other: an empty list and nil are the same.
func same(t *testing.T, what string, got []int, want ...int) {
	t.Helper()
	if !slices.Equal(got, want) {
		t.Errorf("%s: got %v, want %v", what, got, want)
	}
}

// all gives what all states become in the way numbered k.
func all(m *model.Model, k int) []int {
	var list []int
	for s := range m.Space() {
		list = append(list, turn.Turn(m, k, s))
	}
	return list
}

func TestY1Examples(t *testing.T) {
	m := made(t, lamp)
	same(t, "Count, Turn(1, 4), Turn(2, 4)", []int{turn.Count(m), turn.Turn(m, 1, 4), turn.Turn(m, 2, 4)}, 2, 5, -1)
	same(t, "Lamp in the way 0", all(m, 0), 0, 1, 2, 3, 4, 5)
	same(t, "Lamp in the way 1", all(m, 1), 0, 2, 1, 3, 5, 4)
	same(t, "three in the way 3", all(made(t, three), 3), 1, 2, 0)
}

func TestY1Count(t *testing.T) {
	for text, want := range map[string]int{
		"module M": 1, "module M variable n in 0 .. 3": 1, "module M atoms A = {x, y}": 1, "module M atoms A = {x} symmetric A": 1, lamp: 2, three: 6, ring: 24,
		"module M atoms A = {a, b, c, d, e} symmetric A": 120, "module M atoms A = {a, b, c, d, e, f} symmetric A": 720,
		"module M atoms A = {a, b, c, d, e} atoms B = {f, g, h} symmetric B symmetric A":                                   720,
		"module M atoms A = {a, b, c, d, e} atoms B = {f, g, h} symmetric B":                                               6,
		"module M atoms A = {a, b} atoms B = {c, d, e} atoms C = {f} atoms D = {g, h} symmetric C symmetric B symmetric A": 12,
	} {
		if got := turn.Count(made(t, text)); got != want {
			t.Errorf("%s: got %d, want %d", text, got, want)
		}
	}
}

// The six orders, by the first numbers that differ.
func TestY1Orders(t *testing.T) {
	m := made(t, three)
	for k, want := range [][]int{{0, 1, 2}, {0, 2, 1}, {1, 0, 2}, {1, 2, 0}, {2, 0, 1}, {2, 1, 0}} {
		same(t, fmt.Sprint("the way ", k), all(m, k), want...)
	}
}

// Orders are of the atoms as they are declared: z, x, y are the states 2, 0, 1.
func TestY1AsDeclared(t *testing.T) {
	m := made(t, "module M atoms A = {z, x, y} symmetric A variable v in A")
	for k, want := range [][]int{{0, 1, 2}, {1, 0, 2}, {2, 1, 0}, {1, 2, 0}, {2, 0, 1}, {0, 2, 1}} {
		same(t, fmt.Sprint("the way ", k), all(m, k), want...)
	}
}

// The set that was said to be symmetric first counts most, whichever was declared first.
func TestY1SetsCount(t *testing.T) {
	const text = "module M atoms A = {x, y} atoms B = {k, l, m} atoms C = {c, d} %s variable a in A variable b in B variable c1 in C"
	turned := func(said string, k int) string {
		m := made(t, fmt.Sprintf(text, said))
		return fmt.Sprint(m.State(turn.Turn(m, k, m.Number([]string{"x", "k", "c"}))), m.State(turn.Turn(m, k, m.Number([]string{"y", "m", "d"}))))
	}
	for _, row := range []struct {
		said string
		k    int
		want string
	}{
		{"symmetric A symmetric B", 0, "[x k c] [y m d]"}, {"symmetric A symmetric B", 1, "[x k c] [y l d]"}, {"symmetric A symmetric B", 2, "[x l c] [y m d]"}, {"symmetric A symmetric B", 5, "[x m c] [y k d]"}, {"symmetric A symmetric B", 6, "[y k c] [x m d]"}, {"symmetric A symmetric B", 9, "[y l c] [x k d]"}, {"symmetric A symmetric B", 11, "[y m c] [x k d]"},
		{"symmetric B symmetric A", 0, "[x k c] [y m d]"}, {"symmetric B symmetric A", 1, "[y k c] [x m d]"}, {"symmetric B symmetric A", 2, "[x k c] [y l d]"}, {"symmetric B symmetric A", 7, "[y l c] [x k d]"}, {"symmetric B symmetric A", 10, "[x m c] [y k d]"},
		{"symmetric C symmetric A", 1, "[y k c] [x m d]"}, {"symmetric C symmetric A", 2, "[x k d] [y m c]"}, {"symmetric C symmetric A", 3, "[y k d] [x m c]"},
		{"symmetric C symmetric B symmetric A", 1, "[y k c] [x m d]"}, {"symmetric C symmetric B symmetric A", 12, "[x k d] [y m c]"}, {"symmetric C symmetric B symmetric A", 15, "[y k d] [x l c]"},
	} {
		if got := turned(row.said, row.k); got != row.want {
			t.Errorf("%s, the way %d: got %s, want %s", row.said, row.k, got, row.want)
		}
	}
}

// Atoms are exchanged however deep they are; texts, and atoms of other sets, stay.
func TestY1Deep(t *testing.T) {
	const text = `module M atoms A = {x, y, z} atoms B = {k, l} symmetric A variable v in %s`
	for _, row := range [][3]string{
		{`A union {nil}`, "nil", "nil"}, {`A -> 0 .. 1`, "[x: 1, y: 0, z: 0]", "[x: 0, y: 1, z: 0]"}, {`powerset A`, "{x, z}", "{x, y}"}, {`powerset A`, "{}", "{}"}, {`seqs(A, 3)`, "<<z, z, x>>", "<<x, x, y>>"},
		{`{each a in A : ["x": a, "a": B]}`, `["a": {k, l}, "x": z]`, `["a": {k, l}, "x": x]`}, {`{each a in A : {A minus {a}, {}}}`, "{{}, {x, y}}", "{{}, {y, z}}"},
		{`{each a in A : fun s in {A minus {a}, {a}} : <<[0: s], [0: {a}]>>}`, "[{y}: <<[0: {y}], [0: {y}]>>, {x, z}: <<[0: {x, z}], [0: {y}]>>]", "[{z}: <<[0: {z}], [0: {z}]>>, {x, y}: <<[0: {x, y}], [0: {z}]>>]"},
		{`A -> {A, {}}`, "[x: {}, y: {x, y, z}, z: {}]", "[x: {}, y: {}, z: {x, y, z}]"}, {`B -> A`, "[k: x, l: z]", "[k: y, l: x]"}, {`{each a in A : fun b in B : {b} union {a}}`, "[k: {k, x}, l: {l, x}]", "[k: {k, y}, l: {l, y}]"},
	} {
		m := made(t, fmt.Sprintf(text, row[0]))
		s := m.Number([]string{row[1]})
		if s < 0 {
			t.Fatalf("%s: no state has %s", row[0], row[1])
		}
		if got := m.State(turn.Turn(m, 3, s)); !slices.Equal(got, []string{row[2]}) {
			t.Errorf("%s: got %v, want %s", row[1], got, row[2])
		}
	}
}

// six has as many ways as there may be.
const six = "module M atoms A = {a, b, c, d, e, f} symmetric A variable v in A variable w in powerset A"

// In 719 the atoms stand the other way round; 718 exchanges the last two of these, 120 begins with the second one.
func TestY1Most(t *testing.T) {
	m := made(t, six)
	shown := func(k int, values ...string) string {
		return fmt.Sprint(m.State(turn.Turn(m, k, m.Number(values))))
	}
	for _, row := range []struct {
		k    int
		want string
	}{{0, "[a {b, c}]"}, {119, "[a {e, f}]"}, {120, "[b {a, c}]"}, {600, "[f {a, b}]"}, {719, "[f {d, e}]"}, {720, "[]"}} {
		if got := shown(row.k, "a", "{b, c}"); got != row.want {
			t.Errorf("the way %d: got %s, want %s", row.k, got, row.want)
		}
	}
	if got := shown(719, "f", "{e}") + shown(718, "f", "{e}"); got != "[a {b}][b {a}]" {
		t.Errorf("the last ways: got %s", got)
	}
}

// There is no such way, or no such state.
func TestY1Y3Wrong(t *testing.T) {
	for text, ways := range map[string]int{lamp: 2, three: 6, "module M": 1, "module M variable n in 0 .. 3": 1, "module M atoms A = {x} symmetric A variable v in A": 1} {
		m := made(t, text)
		for _, k := range []int{-1, ways, ways + 1, -ways, math.MinInt, math.MaxInt, 720} {
			if got := turn.Turn(m, k, 0); got != -1 {
				t.Errorf("%s: Turn(%d, 0): got %d", text, k, got)
			}
		}
		for _, s := range []int{-1, m.Space(), m.Space() + 1, -m.Space(), math.MinInt, math.MaxInt} {
			for k := range ways {
				if got := turn.Turn(m, k, s); got != -1 {
					t.Errorf("%s: Turn(%d, %d): got %d", text, k, s, got)
				}
			}
			same(t, "Orbit", turn.Orbit(m, s))
			same(t, "Canon", []int{turn.Canon(m, s)}, -1)
		}
		same(t, "Turn(0, 0), Canon(0)", []int{turn.Turn(m, 0, 0), turn.Canon(m, 0)}, 0, 0)
	}
}

func TestY3Examples(t *testing.T) {
	m := made(t, lamp)
	same(t, "Orbit(4)", turn.Orbit(m, 4), 4, 5)
	same(t, "Canon(5), Canon(3)", []int{turn.Canon(m, 5), turn.Canon(m, 3)}, 4, 3)
}

func TestY3Orbits(t *testing.T) {
	m := made(t, three)
	for s := range 3 {
		same(t, "Orbit", turn.Orbit(m, s), 0, 1, 2)
		same(t, "Canon", []int{turn.Canon(m, s)}, 0)
	}
	m = made(t, "module M atoms A = {x, y} atoms B = {k, l} symmetric B variable b in B variable a in A")
	same(t, "Orbit(1)", turn.Orbit(m, 1), 1, 3)
	same(t, "Orbit(2)", turn.Orbit(m, 2), 0, 2)
	// The sets are turned each for itself.
	m = made(t, "module M atoms A = {x, y} atoms B = {k, l} symmetric B symmetric A variable b in B variable a in A variable b2 in B")
	same(t, "Orbit(3)", turn.Orbit(m, 3), 1, 3, 4, 6)
	same(t, "Orbit(7)", turn.Orbit(m, 7), 0, 2, 5, 7)
	same(t, "Canon", []int{turn.Canon(m, 6), turn.Canon(m, 5)}, 1, 0)
	m = made(t, "module M variable n in 0 .. 3")
	same(t, "Orbit(2)", turn.Orbit(m, 2), 2)
	same(t, "Orbit(0)", turn.Orbit(made(t, "module M"), 0), 0)
}

func turned(t *testing.T, text string, kept, stands, depth int) {
	t.Helper()
	if got := turn.Explore(made(t, text)); got != (api.Turned{Kept: kept, Stands: stands, Depth: depth}) {
		t.Errorf("Explore(%s): got %+v", text, got)
	}
}

func TestY4Examples(t *testing.T) {
	turned(t, lamp, 2, 3, 1)
}

func TestY4Explore(t *testing.T) {
	turned(t, ring, 4, 4+12+12+4, 3)
	turned(t, three, 1, 3, 0)
	turned(t, three+" init v = nil", 0, 0, -1)
	turned(t, "module M", 1, 1, 0)
	turned(t, "module M init false", 0, 0, -1)
	turned(t, "module M variable n in 0 .. 5 init n = 4 action A == n' = n - 2", 3, 3, 2)
	turned(t, "module M atoms A = {x, y, z} variable s in powerset A init s = {} action A1 == some a in A : s' = s union {a}", 8, 8, 3)
	turned(t, "module M atoms A = {x, y, z} symmetric A variable s in powerset A init s = {} action A1 == some a in A : s' = s union {a}", 4, 8, 3)
	turned(t, "module M atoms A = {x, y, z} symmetric A variable s in powerset A init s = A action A1 == some a in A : s' = s union {a}", 1, 1, 0)
	// The one stays outside of the set: 4 times 8 states, told apart by how many are in the set.
	turned(t, "module M atoms A = {x, y, z, w} symmetric A variable v in A variable s in powerset A init s = A minus {v} action A1 == some a in s : s' = s minus {a} and unchanged v", 4, 4*8, 3)
}

// checks looks what Check says of an invariant: it holds, or is shown by a way of so many states.
func checks(t *testing.T, text, invariant string, states int) {
	t.Helper()
	m := made(t, text)
	got, err := turn.Check(m, invariant)
	if err != nil || got.Holds != (states == 0) || len(got.Trace) != states || got.Loop != -1 {
		t.Errorf("Check(%s): got %+v, %v", invariant, got, err)
	}
	if trace.Breaks(m, invariant, got) == got.Holds {
		t.Errorf("%s is not shown by %+v", invariant, got)
	}
}

func TestY4Check(t *testing.T) {
	checks(t, lamp, "Dark", 2)
	checks(t, lamp, "Held", 0)
	checks(t, ring, "Not", 0)
	checks(t, ring, "Few", 4)
	checks(t, ring, "Two", 3)
	checks(t, ring, "Begun", 1)
	checks(t, ring, "Nil", 1)
	checks(t, "module M init false invariant I == false", "I", 0)
	checks(t, "module M invariant I == false", "I", 1)
	checks(t, "module M variable n in 0 .. 3 init n = 2 action A == n' = n - 1 invariant J == n > 0", "J", 3)
}

func TestY4Faults(t *testing.T) {
	m := made(t, lamp)
	for _, name := range []string{"", "dark", "Dark ", "Goes", "Rests", "Press", "on", "Hands", "left", "Lamp", "not on", "true", "invariant", "\xff"} {
		got, err := turn.Check(m, name)
		if plain.Told(err) != api.ErrName || got.Holds || got.Trace != nil || got.Loop != 0 {
			t.Errorf("Check(%q): got %+v, %v", name, got, err)
		}
	}
}

// agrees looks whether orbits of all states, and all that turn says of what can be reached, are as they are by all ways and by all states.
func agrees(t *testing.T, text string) api.Turned {
	t.Helper()
	m := made(t, text)
	least := map[int]int{}
	for _, s := range graph.Reached(m) {
		least[turn.Canon(m, s)]++
	}
	report, _ := graph.Explore(m, 64)
	got := turn.Explore(m)
	if got != (api.Turned{Kept: len(least), Stands: report.States, Depth: report.Depth}) {
		t.Errorf("%s: Explore: got %+v, %d orbits, %+v", text, got, len(least), report)
	}
	for _, i := range m.Invariants() {
		byOrbits, err := turn.Check(m, i)
		byStates, _ := graph.Check(m, i, 64)
		if err != nil || byOrbits.Holds != byStates.Holds || len(byOrbits.Trace) != len(byStates.Trace) || byOrbits.Loop != -1 {
			t.Errorf("%s: Check(%s): got %+v, %v, by states %+v", text, i, byOrbits, err, byStates)
		}
		if !byOrbits.Holds && !trace.Breaks(m, i, byOrbits) {
			t.Errorf("%s: %s is not shown by %+v", text, i, byOrbits)
		}
	}
	return got
}

func TestY4Agrees(t *testing.T) {
	for _, text := range []string{lamp, three, ring} {
		agrees(t, text)
	}
}

// What comes out is the caller's, and what was asked ahead makes no difference.
func TestP2Fresh(t *testing.T) {
	m := made(t, lamp)
	for range 2 {
		check, _ := turn.Check(m, "Dark")
		for i, list := range [][]int{turn.Orbit(m, 5), step.Next(m, 0), check.Trace} {
			same(t, "fresh", list, [][]int{{4, 5}, {4, 5}, {0, 4}}[i]...)
			clear(list)
		}
		same(t, "Count, Turn, Canon", []int{turn.Count(m), turn.Turn(m, 1, 4), turn.Canon(m, 5)}, 2, 5, 4)
	}
}

// As many states, and as many ways, as there may be.
func TestY4Great(t *testing.T) {
	turned(t, `module M atoms A = {a, b, c, d, e, f} symmetric A variable v in powerset A variable w in powerset A init v = {} and w = {}
action Put == some x in A minus v : v' = v union {x} and unchanged w action Take == some x in v minus w : w' = w union {x} and unchanged v`, 28, 729, 12)
	turned(t, "module M atoms A = {a, b, c, d, e, f} symmetric A variable v in powerset A variable w in powerset A action A1 == true", 84, 4096, 0)
	m := made(t, six)
	if got := len(turn.Orbit(m, m.Number([]string{"c", "{a, b, f}"}))); got != 60 {
		t.Errorf("Orbit: got %d states", got)
	}
}
