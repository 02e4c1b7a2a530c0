package spare_test

import (
	"fmt"
	"math"
	"slices"
	"strings"
	"testing"

	"sextant/api"
	"sextant/graph"
	"sextant/model"
	"sextant/plain"
	"sextant/spare"
	"sextant/step"
	"sextant/trace"
)

const lamp = `module Lamp
atoms Hands = {left, right}
symmetric Hands
variable on in {false, true}
variable by in Hands union {nil}
init not on and by = nil
action Press == not on and on' = true and by' in Hands
action Go == on and on' = false and by' = nil
fair weak Go
invariant Held == on implies by in Hands
invariant Dark == not on
property Goes == always (on implies eventually not on)
property Rests == eventually always not on
`

// two is the first row of the chapter's table.
const two = "module M variable a in 0 .. 1 variable b in 0 .. 1 init a = 0 and b = 0 action A == a = 0 and a' = 1 and unchanged b action B == b = 0 and b' = 1 and unchanged a invariant I == a < 2"

// wide has four variables, so that actions can be made that touch what they are to.
const wide = "module M variable a in 0 .. 1 variable b in 0 .. 1 variable c in 0 .. 1 variable d in 0 .. 1 "

func made(t *testing.T, text string) *model.Model {
	t.Helper()
	m, at, err := model.New(text)
	if err != nil {
		t.Fatalf("New(%q): %v at %d", text, err, at)
	}
	return m
}

// touches is what an action touches, as the letters of wide's variables, with a stroke between.
func touches(m *model.Model, action int) string {
	reads, writes := spare.Touches(m, action)
	return letters(reads) + "/" + letters(writes)
}

func letters(variables []int) string {
	text := ""
	for _, v := range variables {
		text += string(rune('a' + v))
	}
	return text
}

// explored is what Explore tells, as text.
func explored(t *testing.T, text, invariant string) string {
	t.Helper()
	r, err := spare.Explore(made(t, text), invariant)
	if err != nil {
		t.Fatalf("%s: %v", text, err)
	}
	return shown(r)
}

// shown is a report as text: how many were kept and whole, the dead, and the way; a holding answer ends with a plus.
func shown(r api.Spared) string {
	text := fmt.Sprint(r.Kept, " ", r.Whole, " ", r.Dead, " ", r.Answer.Trace)
	if r.Answer.Holds {
		text += "+"
	}
	if r.Answer.Loop != -1 {
		text += fmt.Sprint(" back to ", r.Answer.Loop)
	}
	return text
}

func is(t *testing.T, what string, got, want any) {
	t.Helper()
	if fmt.Sprint(got) != fmt.Sprint(want) {
		t.Errorf("%s: got %v, want %v", what, got, want)
	}
}

func TestO1Examples(t *testing.T) {
	is(t, "two, A", touches(made(t, two), 0), "a/a")
	is(t, "two, B", touches(made(t, two), 1), "b/b")
	is(t, "Lamp, Press", touches(made(t, lamp), 0), "ab/ab")
	is(t, "Lamp, Go", touches(made(t, lamp), 1), "ab/ab")
}

// What one action touches, of wide's variables.
func TestO1Parts(t *testing.T) {
	const others = "define Same == unchanged a define Both == unchanged a and unchanged b define Is(p) == p = 0 define One == 1 define Sees == d = 0 define Deep(p) == p = 0 and Sees action Up == a' = 1 and unchanged b invariant Low == c = 0 and Sees constant Zero = 0 "
	for text, want := range map[string]string{
		"true":                        "/abcd",
		"a' = 1":                      "a/abcd",
		"a = 0":                       "a/abcd",
		"unchanged a":                 "/bcd",
		"(unchanged a)":               "/bcd",
		"((unchanged a))":             "/bcd",
		"unchanged a and unchanged a": "/bcd",
		"unchanged a and a = 0":       "a/bcd",
		"a' = 0 and unchanged a":      "a/bcd",
		"unchanged d and unchanged a": "/bc",
		"a = b' and unchanged c":      "ab/abd",
		"unchanged a and unchanged b and unchanged c and unchanged d":                "/",
		"unchanged a and (unchanged b and (unchanged c and unchanged d))":            "/",
		"((unchanged a and (b = 0)) and (c' = 1 and (unchanged d))) and unchanged b": "bc/c",
		"unchanged a or unchanged a":                                                 "a/abcd",
		"unchanged b and (unchanged a or c = 0)":                                     "ac/acd",
		"unchanged a = true":                                                         "a/abcd",
		"not (not unchanged a)":                                                      "a/abcd",
		"true implies unchanged a and unchanged b":                                   "ab/abcd",
		"unchanged a iff true":                                                       "a/abcd",
		"if true then unchanged a else unchanged b":                                  "ab/abcd",
		"let x = 1 : unchanged a and b = x":                                          "ab/abcd",
		"all x in 0 .. 1 : unchanged a":                                              "a/abcd",
		"unchanged b and (some x in {a} : x = c')":                                   "ac/acd",
		"Same":                                          "a/abcd",
		"Same and unchanged b":                          "a/acd",
		"Same and unchanged a":                          "a/bcd",
		"Both and unchanged d":                          "ab/abc",
		"Is(a) and unchanged b":                         "a/acd",
		"Is(One + b') and unchanged a":                  "b/bcd",
		"Deep(b)":                                       "bd/abcd",
		"Deep(if Low then 0 else 1)":                    "cd/abcd",
		"Up and unchanged c":                            "ab/abd",
		"Low and unchanged a":                           "cd/bcd",
		"Zero = One and unchanged a":                    "/bcd",
		"Sees and unchanged d and unchanged a":          "d/bc",
		`["a": b] = ["a": 0]`:                           "b/abcd",
		`["a": 0].a = 0 and "a" /= "c" and unchanged c`: "/abd",
		"{c, d'} = {each x in {0} : b}":                 "bcd/abcd",
	} {
		m := made(t, wide+others+"action Do == "+text)
		is(t, text, touches(m, 1), want)
	}
}

// An action writes variables that are declared behind it, too; and a name that is bound is no variable, though one that is declared further on has it.
func TestO1DeclaredFurtherOn(t *testing.T) {
	m := made(t, "module M variable a in 0 .. 1 action A == unchanged a variable b in 0 .. 1 action B == a = 0 and unchanged b variable c in 0 .. 1")
	is(t, "A", touches(m, 0), "/bc")
	is(t, "B", touches(m, 1), "a/ac")
	m = made(t, "module M variable a in 0 .. 1 define D(b) == b = 0 define E == let c = 1 : some d in {0, c} : d = c action A == D(0) and E and (all b in {0} : b = 0) and unchanged a variable b in 0 .. 1 variable c in 0 .. 1 variable d in 0 .. 1 action B == D(c') and E invariant I == E")
	is(t, "bound, A", touches(m, 0), "/bcd")
	is(t, "bound, B", touches(m, 1), "c/abcd")
	// What E binds is no variable of I's: so nothing that A does can be seen.
	is(t, "bound, I", explored(t, "module M variable a in 0 .. 1 define E == some b in {0} : b = 0 variable b in 0 .. 1 init a = 0 and b = 0 action A == a = 0 and a' = 1 and unchanged b action B == b = 0 and b' = 1 and unchanged a invariant I == E", "I"), "3 2 [3] []+")
}

// Any number of parts, as many as a module has room for.
func TestO1ManyParts(t *testing.T) {
	m := made(t, wide+"action A == "+strings.Repeat("unchanged a and ", 200)+"b' = 0")
	is(t, "from the left", touches(m, 0), "b/bcd")
	m = made(t, wide+"action A == "+strings.Repeat("(unchanged a and ", 20)+"b' = 0"+strings.Repeat(")", 20))
	is(t, "from the right", touches(m, 0), "b/bcd")
}

// numbers are such as no action, and no state, has.
var numbers = []int{-1, -64, 64, 100, 1 << 32, math.MaxInt, math.MinInt}

func TestO1NoSuchAction(t *testing.T) {
	for _, m := range []*model.Model{made(t, two), made(t, lamp)} {
		for _, n := range append([]int{2}, numbers...) {
			is(t, fmt.Sprint("action ", n), touches(m, n), "/")
		}
	}
	is(t, "without actions", touches(made(t, wide), 0), "/")
	is(t, "without anything", touches(made(t, "module M"), 0), "/")
	is(t, "without variables", touches(made(t, "module M action A == true"), 0), "/")
}

func TestO2Examples(t *testing.T) {
	is(t, "two", spare.Set(made(t, two), 0, 1), "[1]")
	is(t, "Lamp", spare.Set(made(t, lamp), 0, 0), "[0 1]")
	is(t, "Lamp, not enabled", spare.Set(made(t, lamp), 0, 1), "[]")
	is(t, "Lamp, lit", spare.Set(made(t, lamp), 4, 1), "[0 1]")
	is(t, "Lamp, lit, not enabled", spare.Set(made(t, lamp), 4, 0), "[]")
}

// action writes some of wide's variables, reads others, and is enabled in the state 0 or not.
func action(name, reads, writes string, enabled bool) string {
	text := "action " + name + " == true"
	for _, v := range "abcd" {
		if strings.ContainsRune(reads, v) {
			text += fmt.Sprintf(" and %c < 2", v)
		}
		if !strings.ContainsRune(writes, v) {
			text += fmt.Sprintf(" and unchanged %c", v)
		}
	}
	if !enabled {
		text += " and false"
	}
	return text + " "
}

// The sets of two actions, each of which reads and writes something: the first one's, and the second one's.
func TestO2Apart(t *testing.T) {
	for _, row := range [][5]string{ // what the one reads, writes, the other reads, writes; whether they are apart
		{"", "", "", "", "apart"}, {"a", "", "a", "", "apart"}, {"ab", "", "b", "c", "apart"}, {"a", "b", "a", "c", "apart"}, {"abcd", "", "abcd", "", "apart"},
		{"", "a", "a", "", ""}, {"a", "", "", "a", ""}, {"", "a", "", "a", ""}, {"a", "bc", "d", "c", ""}, {"a", "bc", "c", "d", ""}, {"a", "b", "c", "ad", ""}, {"", "d", "", "abcd", ""},
	} {
		m := made(t, wide+action("A", row[0], row[1], true)+action("B", row[2], row[3], true))
		want := []string{"[0 1]", "[0 1]"}
		if row[4] == "apart" {
			want = []string{"[0]", "[1]"}
		}
		is(t, fmt.Sprint(row), []string{fmt.Sprint(spare.Set(m, 0, 0)), fmt.Sprint(spare.Set(m, 0, 1))}, want)
	}
}

// With an action that is not enabled come those that write what it reads, and no others; with those that are enabled all that are not apart.
func TestO2Closed(t *testing.T) {
	for _, row := range []struct {
		actions string // name, what it reads, what it writes; a stroke behind one that is not enabled
		want    string // of the first one
	}{
		{"A:a:a B:a:b- C:b:c", "[0 1]"},             // B, as it reads what A writes; C reads what B writes, and writes nothing that B reads
		{"A:a:a B:ab:d- C::b", "[0 1 2]"},           // C writes what B reads
		{"A:a:a B:ab:d- C:d:d", "[0 1]"},            // C writes what B writes alone
		{"A:a:a B:ab:d- C:d:c", "[0 1]"},            // C reads what B writes
		{"A:a:a B:ab:d C:d:c", "[0 1 2]"},           // B is enabled: then C is not apart from it
		{"A:a:a B:ab:d- C:c:b- D:d:c", "[0 1 2 3]"}, // by two that are not enabled
		{"A:a:a B:ab:d- C:c:b- D:c:d", "[0 1 2]"},   // D reads what C reads
		{"A:a:a B:b:b C:c:c D:d:d", "[0]"},
		{"A:a:b B:b:c C:c:d D:d:a", "[0 1 2 3]"},
		{"A::d B:a:a C:bd:b- D:c:c E::b", "[0 2 4]"},
		{"A:: B:abcd:- C:abcd:abcd", "[0]"}, // nothing gets in the way of what touches nothing
	} {
		text := wide
		for _, a := range strings.Fields(row.actions) {
			w := strings.Split(strings.TrimSuffix(a, "-"), ":")
			text += action(w[0], w[1], w[2], !strings.HasSuffix(a, "-"))
		}
		is(t, row.actions, spare.Set(made(t, text), 0, 0), row.want)
	}
}

func TestO2NoSuch(t *testing.T) {
	m := made(t, two)
	for _, n := range numbers {
		is(t, fmt.Sprint("action ", n), spare.Set(m, 0, n), "[]")
		is(t, fmt.Sprint("state ", n), spare.Set(m, n, 0), "[]")
		is(t, fmt.Sprint("both ", n), spare.Set(m, n, n), "[]")
	}
	is(t, "action 2", spare.Set(m, 0, 2), "[]")
	is(t, "state 4", spare.Set(m, 4, 0), "[]")
	is(t, "without actions", spare.Set(made(t, wide), 0, 0), "[]")
	is(t, "without variables", spare.Set(made(t, "module M action A == true"), 0, 0), "[0]")
}

func TestO3Examples(t *testing.T) {
	is(t, "two, I", explored(t, two, "I"), "3 2 [3] []+")
	is(t, "Lamp, Dark", explored(t, lamp, "Dark"), "3 3 [] [0 4]")
	is(t, "Lamp, Held", explored(t, lamp, "Held"), "3 3 [] []+")
}

// grid has two actions that are apart, or nearly so; a and b are the state's two digits by three.
const grid = "module M variable a in 0 .. 2 variable b in 0 .. 2 "

const (
	stepA = "action A == a' = a + 1 and unchanged b "
	stepB = "action B == b' = b + 1 and unchanged a "
)

func TestO3Order(t *testing.T) {
	for _, row := range [][2]string{
		// The first that will do, in the order of the actions: 0 3 6, then whole: 7, 8.
		{"init a = 0 and b = 0 " + stepA + stepB + "invariant I == true", "5 3 [8] []+"},
		// B is the first: 0 1 2, then 5, 8.
		{"init a = 0 and b = 0 " + stepB + stepA + "invariant I == true", "5 3 [8] []+"},
		{"init a = 0 and b = 0 " + stepB + stepA + "invariant I == a = 0 or b = 2", "9 9 [8] [0 3]"},
		// A writes what the invariant speaks of: B goes first.
		{"init a = 0 and b = 0 " + stepA + stepB + "invariant I == a < 2", "5 3 [8] [0 1 2 5 8]"},
		{"init a = 0 and b = 0 " + stepA + stepB + "define D(p) == p < a + 1 invariant J == D(1) or a = 0 invariant I == not J or a < 1", "5 3 [8] [0 1 2 5]"},
		// Initial states stand first, ascending: 0 4, then 3 (of 0), 7 (of 4), 6 (of 3), 8 (of 7, whole); 6 goes to 7, which is there already.
		{"init a = b and a < 2 " + stepA + stepB + "invariant I == true", "6 3 [8] []+"},
		// None will do: those that go nowhere new.
		{"init a = 0 and b = 0 action A == unchanged a and unchanged b " + stepB + "invariant I == b < 2", "3 3 [] [0 1 2]"},
		{"init a = 0 and b = 0 action A == unchanged a and unchanged b " + stepB + "invariant I == a < 2", "3 1 [] []+"},
		// D has two actions, which go to 3 and 6 from 0; then 6 (and 3 to 6), and whole.
		{"init a = 0 and b = 0 action A == a = 0 and a' > a and unchanged b action C == a < 2 and a' = 2 and unchanged b " + stepB + "invariant I == b < 2", "5 3 [8] [0 6 7 8]"},
	} {
		is(t, row[0], explored(t, grid+row[0], "I"), row[1])
	}
}

// The first that will do counts; and of its set, what is enabled alone.
func TestO3First(t *testing.T) {
	const (
		begin = "module M variable a in 0 .. 1 variable b in 0 .. 1 variable c in 0 .. 1 init a = 0 and b = 0 and c = 0 "
		a     = "action A == a = 0 and a' = 1 and unchanged b and unchanged c "
		b     = "action B == b = 0 and b' = 1 and unchanged a and unchanged c "
		c     = "action C == c = 0 and c' = 1 and unchanged a and unchanged b "
		v     = "action V == a = 1 and c' = 1 and unchanged a and unchanged b "
		i     = "invariant I == c = 0"
	)
	for _, row := range [][2]string{
		{a + b + c, "4 2 [7] [0 4 6 7]"}, {b + a + c, "4 2 [7] [0 2 6 7]"}, {c + b + a, "4 2 [7] [0 2 6 7]"},
		// V, which could be seen, is in the set of A, but not enabled in 0; in 4 it is, and B goes first.
		{a + b + v, "4 2 [] [0 4 6 7]"}, {v + a + b, "4 2 [] [0 4 6 7]"}, {b + v + a, "4 3 [] [0 2 6 7]"},
	} {
		is(t, row[0], explored(t, begin+row[0]+i, "I"), row[1])
	}
}

// Where a way comes back, what was put off is not put off for ever.
func TestO3Back(t *testing.T) {
	const turns = "module M variable a in 0 .. 1 variable b in 0 .. 1 init a = 0 and b = 0 action A == a' = 1 - a and unchanged b "
	// 0 goes to 2 by A alone; from there A goes back to 0: it is whole, and goes to 3; 3 and 1 are whole, as A is all.
	is(t, "to and fro", explored(t, turns+"action B == b = 0 and b' = 1 and unchanged a invariant I == b = 0", "I"), "4 3 [] [0 2 3]")
	// Here 2 goes to 0 or stays, and B is put off in 0 alone.
	is(t, "stays", explored(t, turns+"action C == a = 1 and unchanged a and unchanged b action B == b = 0 and b' = 1 and unchanged a invariant I == b = 0", "I"), "4 3 [] [0 2 3]")
}

// What stands in the row and was not gone through yet is as good as what is not there yet.
func TestO3InTheRow(t *testing.T) {
	const text = "module M variable a in 0 .. 1 variable b in 0 .. 1 init b = 0 action A == a' = 1 - a and unchanged b action B == b = 0 and b' = 1 and unchanged a invariant I == b = 0"
	// 0 and 2 are initial: 0 goes to 2 by A, though that is there; 2 is whole, and goes to 3.
	is(t, "in the row", explored(t, text, "I"), "4 3 [] [2 3]")
}

func TestO4Answers(t *testing.T) {
	for _, row := range [][3]string{
		{"module M invariant I == true", "I", "1 1 [0] []+"},
		{"module M invariant I == false", "I", "1 1 [0] [0]"},
		{"module M invariant I == nil", "I", "1 1 [0] [0]"},
		{"module M init false invariant I == false", "I", "0 0 [] []+"},
		{"module M action A == true invariant I == false", "I", "1 1 [] [0]"},
		{"module M variable n in 0 .. 4 invariant I == n /= 3", "I", "5 5 [0 1 2 3 4] [3]"},
		// All are gone through, behind the first of which it is not so, too.
		{"module M variable n in 0 .. 4 init n = 2 action Up == n in 2 .. 3 and n' = n + 1 action Down == n < 3 and n' = n - 1 invariant I == n = 2 invariant J == n /= 0 and n /= 4 invariant K == n < 5", "I", "5 5 [0 4] [2 1]"},
		{"module M variable n in 0 .. 4 init n = 2 action Up == n in 2 .. 3 and n' = n + 1 action Down == n < 3 and n' = n - 1 invariant I == n = 2 invariant J == n /= 0 and n /= 4 invariant K == n < 5", "J", "5 5 [0 4] [2 1 0]"},
		{"module M variable n in 0 .. 4 init n = 2 action Up == n in 2 .. 3 and n' = n + 1 action Down == n < 3 and n' = n - 1 invariant I == n = 2 invariant J == n /= 0 and n /= 4 invariant K == n < 5", "K", "5 5 [0 4] []+"},
		// Those without a step ascend, though 4 was gone through ahead of 0 and 1.
		{"module M variable n in 0 .. 5 init n in {4, 5} action A == n = 5 and n' in {0, 3} action B == n = 3 and n' = 1 invariant I == n > 1", "I", "5 5 [0 1 4] [5 0]"},
		// The first that was gone through, not the least: 3 ahead of 0.
		{"module M variable n in 0 .. 4 init n in {1, 4} action A == n = 1 and n' = 3 action B == n = 4 and n' = 0 invariant I == n in {1, 4}", "I", "4 4 [0 3] [1 3]"},
	} {
		is(t, row[0]+": "+row[1], explored(t, row[0], row[1]), row[2])
	}
}

func TestO4NoSuchInvariant(t *testing.T) {
	m := made(t, lamp)
	for _, name := range []string{"", "Goes", "Press", "on", "dark", "Dark ", "Hands", "Lamp", "left", "invariant", strings.Repeat("x", 100), "\xff"} {
		r, err := spare.Explore(m, name)
		if plain.Told(err) != api.ErrName {
			t.Errorf("%q: %v", name, err)
		}
		if r.Kept != 0 || r.Whole != 0 || len(r.Dead) != 0 || r.Answer.Holds || len(r.Answer.Trace) != 0 || r.Answer.Loop != 0 {
			t.Errorf("%q: %+v", name, r)
		}
	}
}

// agrees holds what Explore says against graph, of each invariant of a module: what holds, that a way is one and shows it, and the states that have no step.
func agrees(t *testing.T, text string) {
	t.Helper()
	m := made(t, text)
	var dead []int
	for _, s := range graph.Reached(m) {
		if len(step.Next(m, s)) == 0 {
			dead = append(dead, s)
		}
	}
	for _, name := range m.Invariants() {
		r, err := spare.Explore(m, name)
		a, _ := graph.Check(m, name, 64)
		if err != nil || r.Answer.Holds != a.Holds {
			t.Fatalf("%s: %s: got %+v, %v, want %+v", text, name, r, err, a)
		}
		if r.Answer.Holds != (len(r.Answer.Trace) == 0) || !r.Answer.Holds && !trace.Breaks(m, name, r.Answer) {
			t.Fatalf("%s: %s: %+v shows nothing", text, name, r)
		}
		if !slices.Equal(r.Dead, dead) {
			t.Fatalf("%s: %s: dead %v, want %v", text, name, r.Dead, dead)
		}
	}
}

// ends has many ways that come together, and some that do not.
const ends = `module Ends
variable a in 0 .. 3
variable b in 0 .. 3
variable c in 0 .. 2
variable lock in {nil, 1, 2}
init a = 0 and b = 0 and c = 0 and lock = nil
action TakeA == lock = nil and lock' = 1 and a = 0 and a' = 1 and unchanged b and unchanged c
action TakeB == lock = nil and lock' = 2 and b = 0 and b' = 1 and unchanged a and unchanged c
action A == lock = 1 and a > 0 and a' = a + 1 and unchanged lock and unchanged b and unchanged c
action B == lock = 2 and b > 0 and b' = b + 1 and unchanged lock and unchanged a and unchanged c
action Free == lock = 1 and a = 3 and lock' = nil and unchanged a and unchanged b and unchanged c
action C == c' = c + 1 and unchanged a and unchanged b and unchanged lock
invariant Low == c < 2
invariant NotA == a < 3
invariant NotBoth == a < 3 or b < 3
invariant One == not (a in 1 .. 2 and b in 1 .. 2)
invariant Late == b < 2 or c > 0
invariant Yes == true
invariant No == false
`

func TestO5Examples(t *testing.T) {
	for _, text := range []string{lamp, two, ends, wide + "invariant I == a = 0", "module M invariant I == false"} {
		agrees(t, text)
	}
	m := made(t, ends)
	r, _ := spare.Explore(m, "Yes")
	if all := len(graph.Reached(m)); r.Kept*2 > all {
		t.Errorf("%d of %d states were gone through", r.Kept, all)
	}
}

// What comes out is the caller's, and hangs on nothing that was asked ahead.
func TestP2Fresh(t *testing.T) {
	m := made(t, ends)
	ask := func() string {
		r, _ := spare.Explore(m, "NotBoth")
		reads, writes := spare.Touches(m, 0)
		set := spare.Set(m, 0, 0)
		text := fmt.Sprint(r, reads, writes, set)
		for _, list := range [][]int{r.Dead, r.Answer.Trace, reads, writes, set} {
			if len(list) == 0 {
				t.Errorf("%s: a list is empty", text)
			}
			for i := range list[:cap(list)] {
				list[:cap(list)][i] = -7
			}
		}
		return text
	}
	first := ask()
	_, _ = spare.Explore(m, "No")
	if second := ask(); second != first {
		t.Errorf("got %s, want %s", second, first)
	}
}
