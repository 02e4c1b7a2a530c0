package image_test

import (
	"fmt"
	"math"
	"slices"
	"strings"
	"testing"

	"sextant/api"
	"sextant/graph"
	"sextant/image"
	"sextant/model"
	"sextant/plain"
	"sextant/trace"
)

const lamp = `module Lamp
atoms Hands = {left, right}
symmetric Hands
variable on in {false, true}
variable by in Hands union {nil}
init not on and by = nil
action Press == not on and on' = true and by' in Hands
action Go == on and on' = false and by' = nil
fair weak Go
invariant Held == on implies by in Hands
invariant Dark == not on
property Goes == always (on implies eventually not on)
property Rests == eventually always not on
`

// hall ends: 0 goes to 1 and 2, 1 back to 0, 2 to 3; 3 has no step, nor has 4, to which none goes.
const hall = `module Hall
variable n in 0 .. 4
init n = 0
action Out == n = 0 and n' in {1, 2}
action Home == n = 1 and n' = 0
action End == n = 2 and n' = 3
invariant Near == n < 3
`

// wide has variables of so many values, all of which can be reached at once.
func wide(sizes ...int) string {
	text := "module Wide\n"
	for i, size := range sizes {
		text += fmt.Sprintf("variable v%d in 1 .. %d\n", i, size)
	}
	return text + "invariant I == true\n"
}

func made(t *testing.T, text string) *model.Model {
	t.Helper()
	m, at, err := model.New(text)
	if err != nil {
		t.Fatalf("New(%q): %v at %d", text, err, at)
	}
	return m
}

// bits writes a code as digits.
func bits(code []bool) string {
	text := ""
	for _, so := range code {
		if so {
			text += "1"
		} else {
			text += "0"
		}
	}
	return text
}

// codes tells a test's fault if a state has other bits.
func codes(t *testing.T, m *model.Model, s int, want string) {
	t.Helper()
	if got := bits(image.Code(m, s)); got != want {
		t.Errorf("Code(%d): %s, want %s", s, got, want)
	}
}

// explores tells a test's fault if Explore tells something else.
func explores(t *testing.T, text string, nodes int, rings ...int) {
	t.Helper()
	got, err := image.Explore(made(t, text))
	if err != nil || got.Nodes != nodes || !slices.Equal(got.Rings, rings) {
		t.Errorf("%s: Explore: %+v, %v, want nodes %d, rings %v", text, got, err, nodes, rings)
	}
}

// checks tells a test's fault if a shortest way to where an invariant does not hold has another number of states; 0: it holds.
func checks(t *testing.T, text, invariant string, states int) {
	t.Helper()
	m := made(t, text)
	got, err := image.Check(m, invariant)
	right := got.Loop == -1 && len(got.Trace) == states && got.Holds == (states == 0) && (got.Holds || trace.Breaks(m, invariant, got))
	if err != nil || !right {
		t.Errorf("%s: Check(%s): %+v, %v, want %d states", text, invariant, got, err, states)
	}
}

// branch writes what Branch tells: states, or the fault and its place.
func branch(m *model.Model, op, p, q string) string {
	list, at, err := image.Branch(m, op, p, q)
	switch {
	case err == nil && at == 0:
		return fmt.Sprint(list)
	case list != nil:
		return fmt.Sprint(err, " at ", at, " with ", list)
	}
	return fmt.Sprint(plain.Told(err), " at ", at)
}

// branches tells a test's fault if Branch tells other states.
func branches(t *testing.T, text, op, p, q string, want ...int) {
	t.Helper()
	list, at, err := image.Branch(made(t, text), op, p, q)
	if err != nil || at != 0 || !slices.Equal(list, want) {
		t.Errorf("%s: %s %q %q: %v, %d, %v, want %v", text, op, p, q, list, at, err, want)
	}
}

func TestI1Row(t *testing.T) {
	m := made(t, lamp)
	if got := image.Bits(m); got != 3 {
		t.Errorf("Bits: %d", got)
	}
	codes(t, m, 4, "101")
	codes(t, m, 2, "010")
}

func TestI1Widths(t *testing.T) {
	for size, want := range map[int]int{1: 0, 2: 1, 3: 2, 4: 2, 5: 3, 7: 3, 8: 3, 9: 4, 16: 4, 17: 5, 1000: 10} {
		if got := image.Bits(made(t, wide(size))); got != want {
			t.Errorf("Bits of %d values: %d, want %d", size, got, want)
		}
	}
	if got := image.Bits(made(t, wide(3, 1, 2, 9))); got != 7 {
		t.Errorf("Bits of several: %d", got)
	}
}

func TestI1Codes(t *testing.T) {
	m := made(t, wide(3, 1, 5, 2))
	codes(t, m, 0, "000000")
	codes(t, m, 1, "000001")
	codes(t, m, 2, "000010")
	codes(t, m, 9, "001001")
	codes(t, m, 10, "010000")
	codes(t, m, m.Number([]string{"3", "1", "4", "2"}), "100111")
	codes(t, m, 29, "101001")
}

// The number is that of the value among the variable's, ascending, whatever the value is.
func TestI1Values(t *testing.T) {
	m := made(t, `module M atoms A = {z, y} variable v in {z, nil, y} variable w in {70, nil, -7, 6, 9} variable u in {{}, nil, {"b"}, {"a"}, {"a", "b"}}`)
	for i, v := range []string{"nil", "y", "z"} {
		codes(t, m, m.Number([]string{v, "nil", "nil"}), fmt.Sprintf("%02b000000", i))
	}
	for i, v := range []string{"nil", "-7", "6", "9", "70"} {
		codes(t, m, m.Number([]string{"nil", v, "nil"}), fmt.Sprintf("00%03b000", i))
	}
	for i, v := range []string{"nil", "{}", `{"a"}`, `{"b"}`, `{"a", "b"}`} {
		codes(t, m, m.Number([]string{"nil", "nil", v}), fmt.Sprintf("00000%03b", i))
	}
}

func TestI1NoState(t *testing.T) {
	for _, text := range []string{lamp, "module M", wide(5, 5, 5, 5, 5)} {
		m := made(t, text)
		for _, s := range []int{math.MinInt, -1, m.Space(), 4096, math.MaxInt} {
			if got := image.Code(m, s); len(got) != 0 {
				t.Errorf("Code(%d): %v", s, got)
			}
		}
	}
}

func TestI1NoBits(t *testing.T) {
	for _, text := range []string{"module M", wide(1), wide(1, 1, 1, 1, 1, 1)} {
		m := made(t, text)
		if got := image.Bits(m); got != 0 {
			t.Errorf("Bits: %d", got)
		}
		codes(t, m, 0, "")
	}
}

// Bits and Code have no bound.
func TestI1Many(t *testing.T) {
	m := made(t, wide(5, 5, 5, 5, 5))
	if got := image.Bits(m); got != 15 {
		t.Errorf("Bits: %d", got)
	}
	codes(t, m, 0, "000000000000000")
	codes(t, m, 3124, "100100100100100")
	codes(t, m, 625, "001000000000000")
}

func TestI2Row(t *testing.T) {
	explores(t, lamp, 5, 1, 2)
}

func TestI2Rings(t *testing.T) {
	explores(t, hall, 1, 1, 2, 1)                                                                                                                              // the codes 000, 001, 010, 011: the first bit is not
	explores(t, "module M variable v in 0 .. 3 init v < 0 action A == true", 0)                                                                                // none can be reached
	explores(t, "module M variable v in 0 .. 2 action A == v' = 0", 2, 3)                                                                                      // 11 is no code
	explores(t, "module M variable v in 0 .. 3 init v = 1", 2, 1)                                                                                              // no action
	explores(t, "module M variable v in 0 .. 3 init v = 3 action A == v' = v - 1", 0, 1, 1, 1, 1)                                                              // all codes
	explores(t, "module M variable a in 0 .. 1 variable b in 0 .. 1 init a = b action A == a' /= b' and a + b = 2", 0, 2, 2)                                   // from one of the two
	explores(t, "module M variable a in 0 .. 1 variable b in 0 .. 1 variable c in 0 .. 1 variable d in 0 .. 1 init a = c and b = d", 9, 4)                     // bit j above bit j + 1: side by side they would be 6
	explores(t, "module M variable a in 0 .. 1 variable c in 0 .. 1 variable b in 0 .. 1 variable d in 0 .. 1 init a = c and b = d", 6, 4)                     // as they are here
	explores(t, "module M variable v in 0 .. 3 init v = 0 action A == v' = v + 2 or v' = v + 1 action B == v' = 0 and v > 1 invariant I == v = 0", 0, 1, 2, 1) // two ways of one length
}

func TestI2NoBits(t *testing.T) {
	explores(t, "module M", 0, 1)
	explores(t, "module M init false", 0)
	explores(t, "module M action A == true", 0, 1)
	explores(t, wide(1, 1), 0, 1)
}

func TestI2Full(t *testing.T) {
	explores(t, wide(3, 3, 3, 3, 3, 3), 12, 729)
	explores(t, wide(64, 64), 0, 4096)
	for _, sizes := range [][]int{{5, 5, 5, 3, 3}, {5, 5, 5, 5, 5}, {17, 17, 5}} {
		got, err := image.Explore(made(t, wide(sizes...)))
		if plain.Told(err) != api.ErrFull || got.Rings != nil || got.Nodes != 0 {
			t.Errorf("%v: Explore: %+v, %v", sizes, got, err)
		}
	}
}

// As many rings as there may be.
func TestI2Deep(t *testing.T) {
	got, err := image.Explore(made(t, clock))
	if err != nil || got.Nodes != 0 || len(got.Rings) != 4096 || slices.Max(got.Rings) != 1 || slices.Min(got.Rings) != 1 {
		t.Errorf("Explore: %d rings, nodes %d, %v", len(got.Rings), got.Nodes, err)
	}
}

// clock comes through all of its 4096 states, one by one.
const clock = `module Clock
variable h in 0 .. 63
variable m in 0 .. 63
init h = 0 and m = 0
action Tick == m' = (m + 1) % 64 and h' = (if m = 63 then (h + 1) % 64 else h)
invariant Early == h < 63 or m < 63
`

// All steps there may be: they are not gone through one by one.
func TestI2Dense(t *testing.T) {
	text := "module M\n"
	for i := range 6 {
		text += fmt.Sprintf("variable v%d in 0 .. 3\n", i)
	}
	text += "init v0 + v1 + v2 + v3 + v4 + v5 = 0\n"
	for i := range 10 {
		text += fmt.Sprintf("action A%d == v%d' >= 0\n", i, i%6)
	}
	explores(t, text, 0, 1, 4095)
}

func TestI3Lamp(t *testing.T) {
	checks(t, lamp, "Held", 0)
	checks(t, lamp, "Dark", 2)
}

func TestI3Ways(t *testing.T) {
	checks(t, hall, "Near", 3)
	checks(t, "module M init false invariant I == false", "I", 0)
	checks(t, "module M invariant I == false", "I", 1)
	checks(t, "module M invariant I == nil", "I", 1)
	checks(t, "module M invariant I == true", "I", 0)
	checks(t, "module M variable v in 0 .. 4 init v = 0 action A == v' = v + 1 and v < 3 invariant I == v < 4", "I", 0) // it is not so of a state that cannot be reached
	checks(t, "module M variable v in 0 .. 2 init v = 0 action A == v' = v + 1 invariant I == v < 3", "I", 0)           // 11, which is no code, is not looked at
	checks(t, "module M variable v in 0 .. 9 init v = 1 or v = 7 action A == v' = v + 1 invariant I == v < 9", "I", 3)  // from the nearer one
	checks(t, clock, "Early", 4096)
}

func TestI3Names(t *testing.T) {
	full := strings.Replace(wide(5, 5, 5, 3, 3), "\ninvariant", "\naction A == true\nproperty P == true\ninvariant", 1)
	for _, text := range []string{strings.ReplaceAll(lamp, "Held", "I"), full} {
		m := made(t, text)
		for _, name := range []string{"", "J", "i", "I ", "Press", "Goes", "A", "P", "on", "v0"} {
			got, err := image.Check(m, name)
			if plain.Told(err) != api.ErrName || got.Holds || got.Trace != nil || got.Loop != 0 {
				t.Errorf("Check(%q): %+v, %v", name, got, err)
			}
		}
	}
	got, err := image.Check(made(t, full), "I")
	if plain.Told(err) != api.ErrFull || got.Holds || got.Trace != nil || got.Loop != 0 {
		t.Errorf("Check: %+v, %v", got, err)
	}
}

func TestI4Rows(t *testing.T) {
	branches(t, lamp, "EX", "on", "", 0, 1, 2)
	branches(t, lamp, "AX", "on", "", 0, 1, 2)
	branches(t, lamp, "EF", "by = left", "", 0, 1, 2, 3, 4, 5)
	branches(t, lamp, "AG", "on", "")
	branches(t, lamp, "EG", "not on", "")
	branches(t, lamp, "AF", "by = nil", "", 0, 1, 2, 3, 4, 5)
	branches(t, lamp, "EU", "on", "by = nil", 0, 3, 4, 5)
}

// A state without a step goes on to itself.
func TestI4Stuck(t *testing.T) {
	branches(t, hall, "EX", "n = 3", "", 2, 3)
	branches(t, hall, "AX", "n = 3", "", 2, 3)
	branches(t, hall, "EX", "n = 0", "", 1)
	branches(t, hall, "AX", "n > 0", "", 0, 2, 3, 4)
	branches(t, hall, "EX", "n in {1, 4}", "", 0, 4)
	branches(t, hall, "AX", "n in {1, 4}", "", 4)
	branches(t, hall, "EF", "n = 3", "", 0, 1, 2, 3)
	branches(t, hall, "AF", "n = 3", "", 2, 3) // 0 and 1 may go to and fro for ever
	branches(t, hall, "AF", "n in {3, 1}", "", 0, 1, 2, 3)
	branches(t, hall, "EG", "n < 2", "", 0, 1)
	branches(t, hall, "EG", "n > 1", "", 2, 3, 4)
	branches(t, hall, "EG", "n = 0 or n = 2", "")
	branches(t, hall, "AG", "n /= 4", "", 0, 1, 2, 3)
	branches(t, hall, "AG", "n > 1", "", 2, 3, 4)
	branches(t, hall, "AG", "n < 2", "")
	branches(t, hall, "EU", "n < 2", "n = 2", 0, 1, 2)
	branches(t, hall, "EU", "n = 0", "n = 3", 3)
	branches(t, hall, "EU", "n = 0 or n = 2", "n = 3", 0, 2, 3)
	branches(t, hall, "AU", "n < 2", "n = 2", 2)
	branches(t, hall, "AU", "n = 2", "n = 3", 2, 3)
	branches(t, hall, "AU", "n = 0", "n = 1 or n = 2", 0, 1, 2)
	branches(t, hall, "AU", "n = 4", "n = 3", 3) // 4 stays for ever
}

// What is so at the place itself is so, whatever comes; and what is so of nothing, or of all, needs no more.
func TestI4Ends(t *testing.T) {
	all := []int{0, 1, 2, 3, 4}
	for _, op := range []string{"EX", "AX", "EF", "AF", "EG", "AG", "EU", "AU"} {
		branches(t, hall, op, "true", "true", all...)
		branches(t, hall, op, "false", "false")
		branches(t, hall, op, "nil", "nil") // kind none, and never so
		branches(t, hall, op, "if n = 7 then nil else nil", "choose x in {} : true")
	}
	branches(t, hall, "EU", "false", "n = 1", 1)
	branches(t, hall, "AU", "false", "n = 1", 1)
	branches(t, hall, "EU", "true", "false")
	branches(t, hall, "AU", "true", "false")
	branches(t, hall, "EF", "Near", "", 0, 1, 2)
}

// A module of one state, which has no bits.
func TestI4NoBits(t *testing.T) {
	for _, op := range []string{"EX", "AX", "EF", "AF", "EG", "AG", "EU", "AU"} {
		for _, text := range []string{"module M", "module M action A == true", "module M init false", wide(1, 1)} {
			branches(t, text, op, "true", "true", 0)
			branches(t, text, op, "true and false", "1 = 2")
		}
	}
}

// Codes that are no state's are no states, on neither side of a step.
func TestI4NoCodes(t *testing.T) {
	text := "module M variable v in 0 .. 4 action A == v = 0 and v' /= 1"
	branches(t, text, "AX", "v /= 1", "", 0, 2, 3, 4)
	branches(t, text, "EX", "not (v in 0 .. 4)", "")
	branches(t, text, "AG", "v in 0 .. 4", "", 0, 1, 2, 3, 4)
	branches(t, text, "EF", "not (v in 0 .. 4)", "")
	branches(t, text, "AF", "v > 0", "", 1, 2, 3, 4)
}

func TestI4Deep(t *testing.T) {
	m := made(t, clock)
	late := "h = 63 and m = 63"
	for _, c := range []struct {
		op, p, q string
		want     int
	}{{"EF", late, "", 4096}, {"AF", late, "", 4096}, {"EG", "not (" + late + ")", "", 0}, {"AG", "true", "", 4096}, {"AU", "h = 63", late, 64}, {"EU", "Early", late, 4096}, {"AX", late, "", 1}} {
		list, _, err := image.Branch(m, c.op, c.p, c.q)
		if err != nil || len(list) != c.want || !slices.IsSorted(list) {
			t.Errorf("%s %s: %d states, %v, want %d", c.op, c.p, len(list), err, c.want)
		}
	}
}

func TestI4Ops(t *testing.T) {
	for _, text := range []string{lamp, wide(5, 5, 5, 3, 3)} {
		m := made(t, text)
		for _, op := range []string{"", "E", "A", "X", "U", "ex", "Ex", "EX ", " EX", "EXX", "EW", "AR", "XE", "EE", "AA", "not", "E\x00"} {
			if got := branch(m, op, "((", "))"); got != "ErrName at 0" {
				t.Errorf("%q: %s", op, got)
			}
		}
	}
}

func TestI4Full(t *testing.T) {
	m := made(t, wide(5, 5, 5, 3, 3))
	for _, op := range []string{"EX", "AX", "EF", "AF", "EG", "AG", "EU", "AU"} {
		for _, p := range []string{"true", "((", "v0'", "1 + true"} {
			if got := branch(m, op, p, p); got != "ErrFull at 0" {
				t.Errorf("%s %q: %s", op, p, got)
			}
		}
	}
}

// faults has an expression over Lamp of each sort of fault.
func faults() map[string]string {
	return map[string]string{
		"":                              "ErrSyntax at 0",
		"on and":                        "ErrSyntax at 6",
		"on on":                         "ErrSyntax at 3",
		"on = 99999999999999999999":     "ErrRange at 5",
		strings.Repeat("(", 25) + "on":  "ErrFull at 24",
		"on" + strings.Repeat(" ", 999): "ErrFull at 0",
		"on and of":                     "ErrName at 7",
		"not on and Goes":               "ErrName at 11",
		"on and {always on} = {}":       "ErrLevel at 7",
		"on and 1 + on = 2":             "ErrKind at 9",
		"all x in {1} : all y in {1} : all z in {1} : all w in {1} : on": "ErrFull at 0",
		"on'":                 "ErrLevel at 0",
		"on and unchanged by": "ErrLevel at 0",
		"Press":               "ErrLevel at 0",
		"by'":                 "ErrLevel at 0", // ahead of its kind
		"always on":           "ErrLevel at 0",
		"enabled Go":          "ErrLevel at 0",
		"by":                  "ErrKind at 0",
		"  1":                 "ErrKind at 0",
		"{}":                  "ErrKind at 0",
		"{nil}":               "ErrKind at 0",
		`"on"`:                "ErrKind at 0",
		"all x in {1} : all y in {1} : all z in {1} : all w in {1} : on'": "ErrFull at 0", // ahead of its level
	}
}

func TestI4Faults(t *testing.T) {
	m := made(t, lamp)
	for expr, want := range faults() {
		for _, op := range []string{"EX", "AX", "EF", "AF", "EG", "AG", "EU", "AU"} {
			if got := branch(m, op, expr, "1 +"); got != want {
				t.Errorf("%s %q: %s, want %s", op, expr, got, want)
			}
		}
		for _, op := range []string{"EU", "AU"} {
			if got := branch(m, op, "on", expr); got != want {
				t.Errorf("%s on %q: %s, want %s", op, expr, got, want)
			}
		}
		for _, op := range []string{"EX", "AX", "EF", "AF", "EG", "AG"} {
			if got := branch(m, op, "on", expr); strings.HasPrefix(got, "Err") {
				t.Errorf("%s on %q: %s: q is looked at", op, expr, got)
			}
		}
	}
}

// What an expression costs hangs on what it names; and that it costs too much is told ahead of its level and its kind.
func TestI4Cost(t *testing.T) {
	text := "module M\nvariable v in 0 .. 1\ndefine d0 == v = v\n"
	for i := range 9 {
		text += fmt.Sprintf("define d%d == d%d and d%d\n", i+1, i, i)
	}
	m := made(t, text)
	for expr, want := range map[string]string{"d9 and d7": "[0 1]", "d9 and d9": "ErrFull at 0", "d9 and (d9 and v' = v)": "ErrFull at 0", "{d9, d9}": "ErrFull at 0", "{d9, d7}": "ErrKind at 0"} {
		if got := branch(m, "EX", expr, ""); got != want {
			t.Errorf("%s: %s, want %s", expr, got, want)
		}
	}
}

func TestP2Fresh(t *testing.T) {
	m := made(t, lamp)
	code := image.Code(m, 4)
	found, _ := image.Explore(m)
	answer, _ := image.Check(m, "Dark")
	list, _, _ := image.Branch(m, "EX", "on", "")
	code[0], found.Rings[0], answer.Trace[0], list[0] = false, 9, 9, 9
	codes(t, m, 4, "101")
	explores(t, lamp, 5, 1, 2)
	checks(t, lamp, "Dark", 2)
	branches(t, lamp, "EX", "on", "", 0, 1, 2)
	if got := graph.Reached(m); !slices.Equal(got, []int{0, 4, 5}) {
		t.Errorf("Reached: %v", got)
	}
}

func TestP1AnyText(t *testing.T) {
	m := made(t, lamp)
	for _, expr := range []string{"\x00", "\xff\xfe", strings.Repeat("not ", 300), strings.Repeat("{", 4000), "on\n#", "'", "..", `"`} {
		for _, op := range []string{"EX", "AU", expr} {
			branch(m, op, expr, expr)
		}
		if _, err := image.Check(m, expr); plain.Told(err) != api.ErrName {
			t.Errorf("Check(%q): %v", expr, err)
		}
	}
}
