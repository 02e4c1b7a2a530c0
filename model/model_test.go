package model_test

import (
	"fmt"
	"math"
	"slices"
	"strings"
	"testing"

	"sextant/model"
	"sextant/plain"
)

const lamp = `module Lamp
atoms Hands = {left, right}
symmetric Hands
variable on in {false, true}
variable by in Hands union {nil}
init not on and by = nil
action Press == not on and on' = true and by' in Hands
action Go == on and on' = false and by' = nil
fair weak Go
invariant Held == on implies by in Hands
invariant Dark == not on
property Goes == always (on implies eventually not on)
property Rests == eventually always not on
`

// mark stands, in a text of a test, ahead of where a fault is to be told. It is no part of the text.
const mark = "^"

// unmarked is a text without its mark, and where that stood.
func unmarked(text string) (string, int) {
	at := strings.Index(text, mark)
	if at < 0 {
		panic("no mark: " + text)
	}
	return text[:at] + text[at+len(mark):], at
}

// broken looks for the same error in several modules, each without its head, and with a mark where it is.
func broken(t *testing.T, err string, marked ...string) {
	t.Helper()
	for _, m := range marked {
		text, want := unmarked("module M " + m)
		got, at, told := model.New(text)
		if got != nil || at != want || plain.Told(told).Error() != err {
			t.Errorf("New(%q): got %v, %v at %d, want %s at %d", text, got, told, at, err, want)
		}
	}
}

// same holds lists against each other: an empty list and nil are the same.
func same[T comparable](t *testing.T, what string, got []T, want ...T) {
	t.Helper()
	if !slices.Equal(got, want) {
		t.Errorf("%s: got %v, want %v", what, got, want)
	}
}

// toldEval is what Eval answers, in one text.
func toldEval(m *model.Model, expr string, s, u int) string {
	shown, at, err := m.Eval(expr, s, u)
	switch {
	case err == nil && at == 0:
		return shown
	case err != nil && shown == "":
		return fmt.Sprintf("%v at %d", plain.Told(err), at)
	}
	return fmt.Sprintf("%q besides %v at %d", shown, err, at)
}

// come looks for what expressions come to over two states, pair by pair.
func come(t *testing.T, m *model.Model, s, u int, pairs ...string) {
	t.Helper()
	for i := 0; i < len(pairs); i += 2 {
		if got := toldEval(m, pairs[i], s, u); got != pairs[i+1] {
			t.Errorf("Eval(%q, %d, %d): got %s, want %s", pairs[i], s, u, got, pairs[i+1])
		}
	}
}

func TestExamples(t *testing.T) {
	m := made(t, lamp)
	if m.Space() != 6 {
		t.Errorf("Space: got %d", m.Space())
	}
	same(t, "Domain(0)", m.Domain(0), "false", "true")
	same(t, "Domain(1)", m.Domain(1), "nil", "left", "right")
	same(t, "State(4)", m.State(4), "true", "left")
	numbers(t, m, 4, "true", "left")
	numbers(t, m, -1, "true", "1")
	come(t, m, 0, 4, "by' in Hands", "true", "{each h in Hands : h = by'}", "{false, true}", "Press", "true", "fun h in Hands : size({h, by})", "[left: 2, right: 2]")
}

func numbers(t *testing.T, m *model.Model, want int, values ...string) {
	t.Helper()
	if got := m.Number(values); got != want {
		t.Errorf("Number(%q): got %d, want %d", values, got, want)
	}
}

// The faults of a module come first, wherever they are; then those of sets.
func TestM1ModulesFaults(t *testing.T) {
	broken(t, "ErrSyntax", "variable v in {} variable ^1", "variable v in {} ^]")
	broken(t, "ErrRange", "variable v in {} constant k = ^9223372036854775808")
	broken(t, "ErrName", "variable v in {} variable ^v in {1}", "variable v in {} init ^w", "variable v in nil fair weak ^v")
	broken(t, "ErrKind", "variable v in {} variable ^w in 1", "variable v in {} init v ^+ true")
	broken(t, "ErrLevel", "variable v in {} constant ^k = v", "variable v in {} invariant ^i == v'", "variable v in {} variable ^w in v")
	broken(t, "ErrFull", "variable v in {} atoms A = {a1, a2, a3, a4, a5, a6, a7} symmetric ^A", "variable a in {} variable b in {} variable c in {} variable d in {} variable e in {} variable f in {} variable ^g in {}")
	broken(t, "ErrAtom", "variable v in {} atoms A = {x, y} symmetric A init ^x = y")
	if m, at, err := model.New(""); m != nil || at != 0 || plain.Told(err).Error() != "ErrSyntax" {
		t.Errorf("got %v, %d, %v", m, at, err)
	}
	if m, at, err := model.New("module M" + strings.Repeat(" ", 4000)); m != nil || at != 0 || plain.Told(err).Error() != "ErrFull" {
		t.Errorf("got %v, %d, %v", m, at, err)
	}
}

func TestM1Sets(t *testing.T) {
	broken(t, "ErrRange", "variable ^v in {}", "variable ^v in nil", "variable ^v in 2 .. 1", "variable v in {1} variable ^w in {}", "variable ^v in 0 .. 1023", "variable ^v in powerset (0 .. 7)",
		"constant c = {} variable ^v in c", "define d(p) == p minus p variable ^v in d({1})", "atoms A = {x} variable ^v in A minus {x}", "variable ^v in 0 .. (1 / 0)",
		"variable ^v in {those q in {1} : false}", "variable ^v in {} variable w in nil", "variable ^v in nil variable w in {}", "variable ^v in if false then {1} else {}", "variable ^v in choose q in {{1}} : q = {}")
	broken(t, "ErrFull", "variable v in 0 .. 1000 variable ^w in 0 .. 4", "variable v in 0 .. 63 variable w in 0 .. 63 variable ^x in 0 .. 1", "variable v in 0 .. 63 variable ^w in 0 .. 64",
		"variable v in 0 .. 63 variable ^w in 0 .. 64 variable x in {}", "variable v in 0 .. 1000 variable w in {1} variable ^x in 0 .. 1000 variable y in 0 .. 1000")
	broken(t, "ErrRange", "variable v in 0 .. 63 variable ^x in {} variable w in 0 .. 64")
	for text, space := range map[string]int{
		"":                        1,
		"variable v in 0 .. 1022": 1023,
		"variable v in {nil}":     1,
		"variable v in {{}}":      1,
		"variable v in 0 .. 63 variable w in 0 .. 63":                        4096,
		"variable v in 0 .. 63 variable w in 0 .. 63 variable x in {{}}":     4096,
		"variable v in 0 .. 1022 variable w in 0 .. 3":                       4092,
		"variable v in {1, 1, 2}":                                            2,
		"variable v in powerset (0 .. 6)":                                    128,
		"atoms A = {x, y} variable v in A -> A variable w in powerset A":     16,
		"variable v in {0} variable w in {false, true} variable x in 0 .. 2": 6,
		"constant c = 0 .. 4 define d(p) == p union c variable v in d({9})":  6,
		"action A == false variable v in if A then {1} else {1, 2}":          2,
	} {
		m, at, err := model.New("module M " + text)
		if err != nil || at != 0 || m.Space() != space {
			t.Errorf("New(%q): %v at %d, want %d states", text, err, at, space)
		}
	}
}

func TestM1Names(t *testing.T) {
	m := made(t, `module M
invariant z == true
property y == true
action b == true
variable v in {1}
define none == 1
init true
property x == always true
action a == true
fair strong b
invariant c == v = 1
constant k = 1
variable u in {2}
atoms A = {l}
symmetric A`)
	same(t, "Variables", m.Variables(), "v", "u")
	same(t, "Actions", m.Actions(), "b", "a")
	same(t, "Invariants", m.Invariants(), "z", "c")
	same(t, "Properties", m.Properties(), "y", "x")
	m = made(t, "module M")
	same(t, "Variables", m.Variables())
	same(t, "Actions", m.Actions())
	same(t, "Invariants", m.Invariants())
	same(t, "Properties", m.Properties())
}

func TestM2States(t *testing.T) {
	m := made(t, `module M atoms A = {y, x} variable v in {true, 1 = 1, false} variable w in {<<>>} variable u in {3, -1, 10} variable f in A -> {1, 0}`)
	if m.Space() != 24 {
		t.Errorf("Space: got %d", m.Space())
	}
	same(t, "Domain(0)", m.Domain(0), "false", "true")
	same(t, "Domain(1)", m.Domain(1), "<<>>")
	same(t, "Domain(2)", m.Domain(2), "-1", "3", "10")
	same(t, "Domain(3)", m.Domain(3), "[x: 0, y: 0]", "[x: 0, y: 1]", "[x: 1, y: 0]", "[x: 1, y: 1]")
	n := 0
	for _, v := range m.Domain(0) {
		for _, u := range m.Domain(2) {
			for _, f := range m.Domain(3) {
				same(t, fmt.Sprintf("State(%d)", n), m.State(n), v, "<<>>", u, f)
				numbers(t, m, n, v, "<<>>", u, f)
				n++
			}
		}
	}
	for _, i := range []int{-1, 4, 5, math.MinInt, math.MaxInt} {
		same(t, "Domain of none", m.Domain(i))
	}
	for _, i := range []int{-1, -2, 24, 25, math.MinInt, math.MaxInt} {
		same(t, "State of none", m.State(i))
	}
}

// Values of all sorts stand in a variable's set in their order (V2).
func TestM2Ascending(t *testing.T) {
	m := made(t, `module M atoms A = {x} define d == nil variable v in {each q in 1 .. 4 : if q = 1 then {1} else if q = 2 then {} else if q = 3 then nil else {0, 1}}
		variable w in {"b", "", "ab", "a"} variable r in {["k": 2], ["k": 1]}`)
	same(t, "Domain(0)", m.Domain(0), "nil", "{}", "{1}", "{0, 1}")
	same(t, "Domain(1)", m.Domain(1), `""`, `"a"`, `"ab"`, `"b"`)
	same(t, "Domain(2)", m.Domain(2), `["k": 1]`, `["k": 2]`)
	same(t, "State(31)", m.State(31), "{0, 1}", `"b"`, `["k": 2]`)
}

func TestM2Number(t *testing.T) {
	m := made(t, `module M atoms A = {x, y} variable v in powerset A variable w in {nil, 5} variable g in {[2: 1], <<7>>}`)
	numbers(t, m, 15, "{x, y}", "5", "[2: 1]")
	numbers(t, m, 15, " { y,x , y}\n", "\t5 ", "[ 2:1, 2 : 3]")
	numbers(t, m, 0, "{}", "nil", "<<7>>")
	numbers(t, m, 2, "{}", "5", "[1: 7]")
	numbers(t, m, -1)
	numbers(t, m, -1, "{}", "nil")
	numbers(t, m, -1, "{}", "nil", "<<7>>", "nil")
	numbers(t, m, -1, "{}", "nil", "<<7>>", "")
	for _, wrong := range []string{"", "{", "{x y}", "{x}}", "{z}", "x", "{x, 1}", "nil", "{x, nil}", "01", "v", "A", "{those q in A : true}", "{x", "{x} # remark", "-", strings.Repeat("{", 25), strings.Repeat(" ", 4001) + "{x}"} {
		numbers(t, m, -1, wrong, "nil", "<<7>>")
	}
	for _, wrong := range []string{"4", "05", "+5", "5.", "-5", "false", `"5"`, "{5}", "9223372036854775808", "NIL", "2 + 3"} {
		numbers(t, m, -1, "{}", wrong, "<<7>>")
	}
	for _, wrong := range []string{"<<>>", "<<7, 7>>", "<<8>>", "[2: 2]", "[2: 1, 3: 1]", "[a: 1]", "[]", "7"} {
		numbers(t, m, -1, "{}", "nil", wrong)
	}
}

func TestM2NoVariables(t *testing.T) {
	m := made(t, "module M action A == true")
	if m.Space() != 1 {
		t.Errorf("Space: got %d", m.Space())
	}
	same(t, "State(0)", m.State(0))
	same(t, "Domain(0)", m.Domain(0))
	numbers(t, m, 0)
	numbers(t, m, -1, "nil")
	numbers(t, m, -1, "")
	come(t, m, 0, 0, "A", "true", "1 + 1", "2")
	come(t, m, 0, 1, "A", "ErrRange at 0")
}

// state is the number of a state of World.
func state(t *testing.T, m *model.Model, values ...string) int {
	t.Helper()
	n := m.Number(values)
	if n < 0 {
		t.Fatalf("no state %q", values)
	}
	return n
}

func worldStates(t *testing.T) (m *model.Model, s, u int) {
	t.Helper()
	m = made(t, world)
	s = state(t, m, "true", "1", "y", "[x: 1, y: 2]", `["k": 1, "m": {}]`, "<<1, 2>>")
	u = state(t, m, "false", "3", "y", "[x: 0, y: 0]", `["k": 2, "m": {1, 2}]`, "<<>>")
	return m, s, u
}

func TestM3Names(t *testing.T) {
	m, s, u := worldStates(t)
	come(t, m, s, u, "7", "7", "9223372036854775807", "9223372036854775807", `"a b"`, `"a b"`, `""`, `""`, "nil", "nil", "true", "true", "false", "false",
		"c", "2", "s", "{1, 3, 5}", "low", "2", "d", "false", "step", "true", "Go", "false", "Inv", "true", "x", "x", "A", "{x, y}",
		"b", "true", "b'", "false", "n", "1", "n'", "3", "a", "y", "a'", "y", "f", "[x: 1, y: 2]", "f'", "[x: 0, y: 0]", "r", `["k": 1, "m": {}]`, "r'", `["k": 2, "m": {1, 2}]`, "q", "<<1, 2>>", "q'", "<<>>",
		"unchanged a", "true", "unchanged n", "false", "unchanged f", "false", "unchanged r", "false", "unchanged q", "false", "unchanged b", "false")
	come(t, m, u, s, "n", "3", "n'", "1", "d", "true", "step", "false", "Go", "false", "Inv", "false", "unchanged a", "true")
	come(t, m, s, s, "n", "1", "n'", "1", "Go", "true", "unchanged n", "true", "unchanged f", "true", "unchanged r", "true", "unchanged q", "true")
}

func TestM3Calls(t *testing.T) {
	m, s, u := worldStates(t)
	come(t, m, s, u, "id(n)", "1", "id(n')", "3", "plus(1, 2)", "3", "plus(n, n')", "4", "twice(5)", "11", "twice(n')", "7", "more(2)", "true", "more(1)", "false", "next(2)", "false", "next(3)", "true",
		"pick(A, {x})", "{x}", "plus(plus(1, 2), plus(4, 8))", "15", "id(id(id(A)))", "{x, y}", "plus(let z = 3 : z, let z = 4 : z)", "7",
		"{each z in s : plus(z, twice(z))}", "{4, 10, 16}", "let z = 10 : plus(z, let w = 100 : plus(w, z))", "120", "id(nil)", "nil", "plus(nil, 1)", "nil")
	m = made(t, `module M define minus3(p, o, e) == p - o - e define sub(p, o) == let e = p : let i = o : e - i define own(p) == all q in {1} : p = q
		constant e = 1 define q == 5 define deep(p) == sub(minus3(p, 1, 2), sub(p, q)) define of(p) == {each i in {p, e} : {each o in {i, p} : o - p}}`)
	come(t, m, 0, 0, "minus3(10, 2, 1)", "7", "minus3(minus3(10, 2, 1), minus3(1, 1, 1), 3)", "5", "sub(9, 4)", "5", "sub(sub(9, 4), sub(2, 1))", "4", "own(1)", "true", "own(2)", "false",
		"deep(20)", "2", "of(3)", "{{0}, {-2, 0}}", "let z = 7 : sub(z, sub(z, 1))", "1", "{each z in {1, 2} : sub(z, {each w in {z} : w})}", "ErrKind at 20")
}

// A name may be bound ahead of where it is declared, and there it stands for what it is bound to.
func TestM3BoundAhead(t *testing.T) {
	m := made(t, `module M define first(v, k) == v - k constant c = let v = 2 : let k = 3 : v * k define own == {each own in {1} : own + 1} variable w in {each v in 0 .. 2 : v + c}
		invariant i == all later in {1} : later = 1 action act == some v in {6} : w' = v constant k = 10 variable v in {4} define later == 9 init all z in {1} : z = 1`)
	come(t, m, 0, 0, "first(9, 4)", "5", "c", "6", "own", "{2}", "w", "6", "i", "true", "act", "true", "first(k, v)", "6", "later", "9")
	come(t, m, 1, 1, "act", "false", "w", "7")
}

func TestM3If(t *testing.T) {
	m, s, u := worldStates(t)
	come(t, m, s, u, "if true then 1 else 2", "1", "if false then 1 else 2", "2", "if nil then 1 else 2", "2", "if b then n else n'", "1", "if b' then n else n'", "3",
		"if true then nil else 2", "nil", "let z = 5 : z + z", "10", "let z = n : let w = n' : w - z", "2", "let z = nil : z", "nil", "(let z = 1 : z) + (let z = 2 : z)", "3",
		"let z = (let z = 1 : z + 1) : z * z", "4", "let z = {1} : {each w in z : {z}}", "{{{1}}}")
}

func TestM3Binders(t *testing.T) {
	m, s, u := worldStates(t)
	come(t, m, s, u,
		"all z in s : z > 0", "true", "all z in s : z > 1", "false", "all z in {} : false", "true", "all z in nil : true", "false", "all z in {true, nil} : z", "false", "all z in {true} : z", "true",
		"some z in s : z > 4", "true", "some z in s : z > 5", "false", "some z in {} : true", "false", "some z in nil : true", "false", "some z in {nil, false} : z", "false", "some z in {nil, true} : z", "true",
		"choose z in s : z > 1", "3", "choose z in s : true", "1", "choose z in s : false", "nil", "choose z in {} : true", "nil", "choose z in nil : true", "nil", "choose z in {5, nil} : true", "nil",
		"choose z in A : true", "x", "choose z in s : nil", "nil", "choose z in {{1, 2}, {3}, {0, 9}} : size(z) = 2", "{0, 9}",
		"{those z in s : z > 1}", "{3, 5}", "{those z in s : nil}", "{}", "{those z in {} : true}", "{}", "{those z in nil : true}", "nil", "{those z in {true, false, nil} : z}", "{true}",
		"{each z in s : z / 2}", "{0, 1, 2}", "{each z in s : nil}", "{nil}", "{each z in {} : 1}", "{}", "{each z in nil : 1}", "nil", "{each z in s : z % 2}", "{1}", "{each z in s : -z}", "{-5, -3, -1}",
		"fun z in s : z * z", "[1: 1, 3: 9, 5: 25]", "fun z in {} : 1", "<<>>", "fun z in nil : 1", "nil", "fun z in 1 .. 3 : -z", "<<-1, -2, -3>>", "fun z in A : nil", "[x: nil, y: nil]",
		"all z in s : some w in s : z <= w", "true", "some z in s : all w in s : z >= w", "true", "some z in s : all w in s : z > w", "false",
		"{each z in 1 .. 2 : {each w in 1 .. 2 : z * 10 + w}}", "{{11, 12}, {21, 22}}", "fun z in A : {those w in A : w /= z}", "[x: {y}, y: {x}]",
		"{each z in s : n' + z}", "{4, 6, 8}", "{those z in A : z = a'}", "{y}", "all z in (all w in s : true) : true", "ErrKind at 0",
		"choose z in 0 .. 100 : (choose w in 0 .. z : w * w = 49) /= nil", "7", "{each z in {<<1>>, <<2>>} : head(z)}", "{1, 2}")
}

// Each operator of V4 by its sign, its word or its brackets.
func TestM3Operators(t *testing.T) {
	m, s, u := worldStates(t)
	come(t, m, s, u,
		"not b", "false", "not b'", "true", "not nil", "true", "b and b'", "false", "b and b", "true", "b and nil", "false", "nil and b", "false", "b or b'", "true", "b' or b", "true", "b' or b'", "false", "nil or nil", "false", "nil or b", "true",
		"b implies b'", "false", "b' implies b", "true", "b implies b", "true", "b' implies b'", "true", "nil implies false", "true", "b implies nil", "false", "b iff b'", "false", "b' iff nil", "true", "b iff true", "true",
		"n = 1", "true", "n = n'", "false", "nil = n", "false", "{} = s", "false", "n /= n'", "true", "n /= 1", "false", "n < n'", "true", "n <= 1", "true", "n > n'", "false", "n >= 1", "true", "n < nil", "false", "nil >= nil", "false",
		"n + n'", "4", "n - n'", "-2", "n' * n'", "9", "n' / 2", "1", "n' % 2", "1", "-n'", "-3", "--n'", "3", "n / 0", "nil", "n % 0", "nil", "n + nil", "nil", "-nil", "nil", "9223372036854775807 + n", "-9223372036854775808",
		"n .. n'", "{1, 2, 3}", "n' .. n", "{}", "nil .. 1", "nil", "0 .. 5000", "nil", "{}", "{}", "{3, n, 1}", "{1, 3}", "{nil}", "{nil}", "n in s", "true", "2 in s", "false", "n in nil", "false", "{1} subset s", "true",
		"{n, 2} subset s", "false", "nil subset s", "false", "{2} union s", "{1, 2, 3, 5}", "(1 .. 3) inter s", "{1, 3}", "s minus {n}", "{3, 5}", "s union nil", "nil", "size(s)", "3", "size(nil)", "nil",
		"flatten {{1}, s}", "{1, 3, 5}", "flatten {nil}", "nil", "powerset {n}", "{{}, {1}}", "powerset nil", "nil", "{1, 2} -> {a}", "{<<y, y>>}", "nil -> A", "nil", "seqs({a}, 2)", "{<<>>, <<y>>, <<y, y>>}", "seqs(A, -1)", "nil",
		"<<>>", "<<>>", "<<n, 2>>", "<<1, 2>>", "[n: 2, 1: 3, 0: 4]", "[0: 4, 1: 2]", `["k": 1, "k": 2]`, `["k": 1]`, "[1: 5]", "<<5>>", "f[x]", "1", "f[nil]", "nil", "q[2]", "2", "q[3]", "nil", `r["k"]`, "1", "r.m", "{}", "r'.m", "{1, 2}",
		"f[x := 9]", "[x: 9, y: 2]", "f[nil := 9]", "[x: 1, y: 2]", "q[3 := 9]", "<<1, 2>>", `r["k" := n']`, `["k": 3, "m": {}]`, "nil[1 := 2]", "nil", "domain f", "{x, y}", "domain q", "{1, 2}", "values(f)", "{1, 2}", "values(q')", "{}",
		"domain r", `{"k", "m"}`, "len(q)", "2", "len(nil)", "nil", "head(q)", "1", "head(q')", "nil", "tail(q)", "<<2>>", "tail(q')", "nil", "append(q, n')", "<<1, 2, 3>>", "q ++ <<7>>", "<<1, 2, 7>>", "q ++ nil", "nil")
}

// What weighs too much is nil, wherever it stands.
func TestM3Heavy(t *testing.T) {
	m, s, u := worldStates(t)
	come(t, m, s, u, "0 .. 1022 = nil", "false", "0 .. 1023 = nil", "true", "{each z in 0 .. 1022 : <<z>>}", "nil", "size({each z in 0 .. 340 : {z}})", "341", "size({each z in 0 .. 511 : {z}})", "nil",
		"size({each z in 0 .. 510 : {z}})", "511", "(fun z in 0 .. 510 : z) = nil", "false", "(fun z in 0 .. 511 : z) = nil", "true", "size({each z in 0 .. 1022 : 0 .. z}) = nil", "true",
		"{0 .. 1022}", "nil", "<<0 .. 1022>>", "nil", `["k": 0 .. 1022].k`, "nil", "let z = 0 .. 1023 : {z}", "{nil}", "all z in 0 .. 1023 : true", "false", "some z in 0 .. 1022 : z = 1022", "true",
		"{those z in powerset (0 .. 6) : size(z) = 7}", "{{0, 1, 2, 3, 4, 5, 6}}", "{those z in powerset (0 .. 7) : size(z) = 7}", "nil")
}

func TestM4Faults(t *testing.T) {
	m := made(t, lamp)
	come(t, m, 0, 0, "", "ErrSyntax at 0", "1 +", "ErrSyntax at 3", "on on", "ErrSyntax at 3", "99999999999999999999", "ErrRange at 0", strings.Repeat(" ", 1000)+"1", "ErrFull at 0", strings.Repeat("(", 25), "ErrFull at 24",
		"on and zz", "ErrName at 7", "Goes", "ErrName at 0", "on(1)", "ErrName at 0", "left'", "ErrName at 0", "unchanged Go", "ErrName at 0", "enabled on", "ErrName at 0", "let on = 1 : 2", "ErrName at 0",
		"1 + on", "ErrKind at 2", "{1, on}", "ErrKind at 0", "size(1, 2)", "ErrKind at 0", "{always on}", "ErrLevel at 0", "1 = enabled Go", "ErrSyntax at 4", "1 = (enabled Go)", "ErrLevel at 2",
		"always on", "ErrLevel at 0", "on and eventually on", "ErrLevel at 0", "not (on until on)", "ErrLevel at 0", "enabled Go", "ErrLevel at 0", "on leadsto on", "ErrLevel at 0",
		"all a in Hands : all b in Hands : all c in Hands : all d in Hands : true", "ErrFull at 0",
		"{each a in {each b in Hands : {each c in Hands : {each d in Hands : {each e in Hands : 1}}}} : always on}", "ErrLevel at 0")
	over := made(t, "module M define a == 1"+strings.Repeat("+1", 500)+" define b == a+a+a variable v in {1}")
	come(t, over, 0, 0, "b", "1503", "b + b", "ErrFull at 0", "b + b = 1 and always true", "ErrFull at 0")
	// Symmetric atoms may be named, and chosen, by who asks.
	come(t, m, 0, 4, "left", "left", "choose h in Hands : h /= left", "right", "by' = left", "true")
	for _, row := range [][2]int{{-1, 0}, {0, -1}, {6, 0}, {0, 6}, {-1, -1}, {math.MaxInt, 0}, {0, math.MinInt}} {
		come(t, m, row[0], row[1], "1", "ErrRange at 0", "on", "ErrRange at 0", "always on", "ErrLevel at 0", "zz", "ErrName at 0", "1 +", "ErrSyntax at 3", "1 + on", "ErrKind at 2")
	}
	come(t, m, 5, 5, "by", "right", "by'", "right")
	come(t, m, 5, 0, "by", "right", "by'", "nil")
}

// Whoever wants no more of the states that an expression is so of gets no more.
func TestTermStops(t *testing.T) {
	m := made(t, lamp)
	term, _, err := m.Ready("by' in Hands or on")
	if err != nil {
		t.Fatal(err)
	}
	for range 2 {
		var got []int
		for u := range term.From(0) {
			if got = append(got, u); len(got) == 2 {
				break
			}
		}
		same(t, "From", got, 1, 2)
		got = nil
		for u := range term.Alone() {
			if got = append(got, u); len(got) == 1 {
				break
			}
		}
		same(t, "Alone", got, 1)
	}
	var actions []int
	for i := range m.EachAction() {
		actions = append(actions, i)
		break
	}
	same(t, "EachAction", actions, 0)
}

// What comes out is the caller's, and what a model answers does not hang on what it was asked before.
func TestP2Fresh(t *testing.T) {
	m := made(t, lamp)
	lists := func() [][]string {
		return [][]string{m.Variables(), m.Actions(), m.Invariants(), m.Properties(), m.Domain(1), m.State(4)}
	}
	for _, list := range lists() {
		for i := range list {
			list[i] = "gone"
		}
	}
	for i, want := range []string{"[on by]", "[Press Go]", "[Held Dark]", "[Goes Rests]", "[nil left right]", "[true left]"} {
		if got := fmt.Sprint(lists()[i]); got != want {
			t.Errorf("got %s, want %s", got, want)
		}
	}
	values := []string{"true", "left"}
	m.Number(values)
	same(t, "what is handed in", values, "true", "left")
	before := toldEval(m, "{h, by}", 0, 4)
	come(t, m, 0, 4, "let h = {{left}} : h", "{{left}}", "{{each h in Hands : <<{h}, {by}>>}}", "{{<<{left}, {nil}>>, <<{right}, {nil}>>}}", "{h, by}", before)
}

// Two who ask one model at the same time do not see each other.
func TestP2AtTheSameTime(t *testing.T) {
	m := made(t, world)
	done := make(chan string)
	for i := range 4 {
		go func() {
			r := newMaker(int64(i / 2))
			all := ""
			for range 300 {
				all += toldEval(m, r.expr('b', 3), 1, 2) + "\n"
			}
			done <- fmt.Sprint(i/2, " ", all)
		}()
	}
	told := map[string]int{}
	for range 4 {
		told[<-done]++
	}
	if len(told) != 2 {
		t.Errorf("%d answers", len(told))
	}
}

// No text makes it panic, and a place is one of the text.
func TestP1AnyText(t *testing.T) {
	r := newMaker(7)
	m := made(t, lamp)
	pieces := strings.Fields("constant k = atoms A = {x, y} symmetric A variable v in {1} define d (p) == p init true action a == v' fair weak a invariant i property P == " +
		"always eventually until ( ) { } [ ] << >> , : := . ' + - and or not let q = all some each those choose fun if then else nil size len head enabled unchanged on by Go Hands \"k\" 1 2 / 0")
	for range 30000 {
		text := ""
		for range r.Intn(20) {
			text += pieces[r.Intn(len(pieces))] + " "
		}
		got, at, err := model.New("module M " + text)
		if (got == nil) != (err != nil) || at < 0 || at > len("module M "+text) || err == nil && at != 0 {
			t.Fatalf("New(%q): %v, %d, %v", text, got, at, err)
		}
		if told := toldEval(m, text, 0, 4); strings.Contains(told, "besides") {
			t.Fatalf("Eval(%q): %s", text, told)
		}
		m.Number([]string{text, text})
	}
}
