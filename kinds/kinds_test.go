package kinds_test

import (
	"fmt"
	"strings"
	"testing"

	"sextant/kinds"
	"sextant/plain"
)

const lamp = `module Lamp
atoms Hands = {left, right}
symmetric Hands
variable on in {false, true}
variable by in Hands union {nil}
init not on and by = nil
action Press == not on and on' = true and by' in Hands
action Go == on and on' = false and by' = nil
fair weak Go
invariant Held == on implies by in Hands
invariant Dark == not on
property Goes == always (on implies eventually not on)
property Rests == eventually always not on
`

// world has a name for each thing that a name may stand for.
const world = `module World
atoms A = {x, y}
constant c = 1
variable b in {false, true}
variable n in 0 .. 3
variable a in A union {nil}
variable f in A -> 0 .. 1
variable r in {["k": 1, "m": {}]}
define low == c
define d == n > c
define step == n' > n
define id(p) == p
define plus(p, q) == p + q
define more(p) == p > n
define next(p) == p > n'
action Go == b and b' = b
invariant Inv == b
property Prop == always b
`

// mark stands, in a text of a test, ahead of where a fault is to be told. It is no part of the text.
const mark = "^"

// unmarked is a text without its mark, and where that stood.
func unmarked(text string) (string, int) {
	at := strings.Index(text, mark)
	if at < 0 {
		panic("no mark: " + text)
	}
	return text[:at] + text[at+len(mark):], at
}

// toldExpr is what Expr answers, in one text.
func toldExpr(module, expr string) string {
	kind, level, at, err := kinds.Expr(module, expr)
	switch {
	case err == nil && at == 0:
		return fmt.Sprintf("%s, %d", kind, level)
	case err != nil && kind == "" && level == 0:
		return fmt.Sprintf("%v at %d", plain.Told(err), at)
	}
	return fmt.Sprintf("%q, %d besides %v at %d", kind, level, err, at)
}

func toldModule(text string) string {
	at, err := kinds.Module(text)
	return fmt.Sprintf("%v at %d", plain.Told(err), at)
}

// are looks for the kinds and levels of expressions, pair by pair.
func are(t *testing.T, module string, pairs ...string) {
	t.Helper()
	for i := 0; i < len(pairs); i += 2 {
		if got := toldExpr(module, pairs[i]); got != pairs[i+1] {
			t.Errorf("Expr(%q): got %s, want %s", pairs[i], got, pairs[i+1])
		}
	}
}

// fail looks for the same error in several expressions, each of which has a mark where it is.
func fail(t *testing.T, module, err string, marked ...string) {
	t.Helper()
	for _, m := range marked {
		expr, at := unmarked(m)
		if got, want := toldExpr(module, expr), fmt.Sprintf("%s at %d", err, at); got != want {
			t.Errorf("Expr(%q): got %s, want %s", expr, got, want)
		}
	}
}

// sound looks for modules without a fault, each of them without its head.
func sound(t *testing.T, texts ...string) {
	t.Helper()
	for _, text := range texts {
		if got := toldModule("module M " + text); got != "OK at 0" {
			t.Errorf("Module(%q): got %s", text, got)
		}
	}
}

// broken looks for the same error in several modules, each without its head, and with a mark where it is.
func broken(t *testing.T, err string, marked ...string) {
	t.Helper()
	for _, m := range marked {
		text, at := unmarked("module M " + m)
		if got, want := toldModule(text), fmt.Sprintf("%s at %d", err, at); got != want {
			t.Errorf("Module(%q): got %s, want %s", text, got, want)
		}
	}
}

func TestExamples(t *testing.T) {
	are(t, lamp,
		"by", "atom, 1",
		"{by'} union {}", "set of atom, 2",
		`["a": 1, "b": {}]`, "rec(a: int, b: set of none), 0",
		"on and always on", "bool, 3",
		"fun h in Hands : 1 .. 2", "fun atom to set of int, 0",
		"<<1>>[2 := nil]", "seq of int, 0",
		"left", "atom, 0",
	)
	fail(t, lamp, "ErrName", "[^a: 1]", "^all by in Hands : true", "^Goes")
	fail(t, lamp, "ErrLevel", "^{always on}")
	fail(t, lamp, "ErrKind", "1 ^+ on", "len(1 ^-> 2)")
	if got := toldModule(lamp); got != "OK at 0" {
		t.Errorf("Lamp: got %s", got)
	}
	if got := toldModule(world); got != "OK at 0" {
		t.Errorf("World: got %s", got)
	}
}

// A fault of form comes ahead of all others; of Expr, one of the module ahead of the expression's.
func TestFormFirst(t *testing.T) {
	broken(t, "ErrSyntax", "constant k = zz constant k = 1 +^", "^module", "constant k = zz init 7 ^7")
	broken(t, "ErrRange", "constant k = zz constant l = ^9223372036854775808")
	broken(t, "ErrFull", "constant k = zz constant l = "+strings.Repeat("(", 24)+mark+"(1"+strings.Repeat(")", 25))
	if got := toldModule("module M constant k = zz #" + strings.Repeat(" ", 4000)); got != "ErrFull at 0" {
		t.Errorf("too long: got %s", got)
	}
	if got := toldModule(""); got != "ErrSyntax at 0" {
		t.Errorf("empty: got %s", got)
	}
	fail(t, lamp, "ErrSyntax", "zz + ^", "^", "1 + on'[^")
	fail(t, lamp, "ErrRange", "zz + ^abcdefghijklmnopq")
	fail(t, lamp, "ErrFull", mark+"zz"+strings.Repeat(" ", 1000))
	for _, expr := range []string{"1 +", "zz", "1", strings.Repeat(" ", 2000)} {
		are(t, "module M constant k = zz", expr, "ErrName at 22")
		are(t, "module M constant = 1", expr, "ErrSyntax at 18")
		are(t, "module M atoms T = {t} symmetric T constant k = t", expr, "ErrAtom at 48")
	}
}

// declarations are one of each that gives a name, with the mark ahead of the name, which is z.
var declarations = []string{
	"constant ^z = 1", "atoms ^z = {z1}", "atoms Z = {^z}", "variable ^z in {1}", "define ^z == 1", "define ^z(q) == q",
	"action ^z == true", "invariant ^z == true", "property ^z == true",
}

func TestK1TwoOfAName(t *testing.T) {
	for _, first := range declarations {
		for _, second := range declarations {
			second = strings.NewReplacer("z1", "z2", "Z", "Z2").Replace(second)
			one, _ := unmarked(first)
			broken(t, "ErrName", one+" "+second)
		}
		one, _ := unmarked(first)
		sound(t, one+" init true init true", strings.ReplaceAll(one, "z", "M"))
	}
}

func TestK1Atoms(t *testing.T) {
	sound(t, "atoms A = {x, y} atoms B = {z}")
	broken(t, "ErrName",
		"atoms A = {x, ^x}", "atoms A = {^A}", "atoms A = {x, ^A, x}", "atoms A = {x} atoms ^A = {x}",
		"atoms A = {x} atoms B = {^x}", "atoms A = {x} atoms B = {y, ^x, B}", "atoms A = {x} atoms ^x = {A}",
		"atoms A = {x, y} constant ^y = 1", "constant k = 1 atoms A = {x, ^k}",
	)
}

// A name stands for something behind its declaration alone; the name of the module for nothing.
func TestK1Behind(t *testing.T) {
	sound(t,
		"constant k = 1 constant l = k", "define z == let z = 1 : z", "constant z = size({each z in {1} : z})",
		"action z == some z in {true} : z", "define z(p) == let z = p : z constant k = z(1)",
		"constant k = let l = 1 : l constant l = k", "constant M = 1",
	)
	broken(t, "ErrName",
		"constant k = ^k", "constant k = ^l constant l = 1", "define z == ^z", "define z(p) == ^z(p)", "variable z in {^z}",
		"variable v in {1} action z == ^enabled z", "invariant z == ^z", "property z == ^z", "init ^z define z == true",
		"action z == ^y variable y in {true}", "constant k = ^M",
	)
}

// What a definition has in brackets.
func TestK1Brackets(t *testing.T) {
	sound(t,
		"define z(p, q) == p define y(p, q) == q", "define z(p) == p constant p = 1 constant k = z(p)",
		"define z(p) == p + 1 define y(p) == z(p) constant k = y(1)", "define z(p) == p constant k = let p = 1 : z(p)",
		"define z(p, q) == let s = p : q constant s = 1 constant k = z(s, s)",
	)
	broken(t, "ErrName",
		"define z(p, ^p) == p", "define z(^z) == 1", "define z(p, q, ^z) == 1", "constant k = 1 define z(^k) == k",
		"atoms A = {x} define z(^x) == 1", "atoms A = {x} define z(^A) == 1", "define y(p) == p define z(p, ^y) == p",
		"define z(p) == p constant k = ^p", "define z(p) == let q = 1 : q constant k = ^q", "define z(p) == ^let p = 1 : p",
		"property P == true define z(^P) == 1", "define z(p) == ^p'", "define z(p) == ^p(1)", "define z(p) == ^unchanged p",
	)
}

func TestK1Bound(t *testing.T) {
	heads := []string{"let %s = {1} : %s", "all %s in {true} : %s", "some %s in {true} : %s", "choose %s in {true} : %s",
		"fun %s in {1} : %s", "{each %s in {1} : %s}", "{those %s in {true} : %s}"}
	for _, head := range heads {
		for _, taken := range []string{"A", "x", "c", "b", "low", "id", "Go", "Inv", "Prop"} {
			fail(t, world, "ErrName", mark+fmt.Sprintf(head, taken, "true"), "1 + ("+mark+fmt.Sprintf(head, taken, "zz")+")")
		}
		fail(t, world, "ErrName",
			"let q = 1 : "+mark+fmt.Sprintf(head, "q", "true"),
			"all s in A : {each q in A : "+mark+fmt.Sprintf(head, "s", "true")+"}",
			"(let q = 1 : ("+fmt.Sprintf(head, "s", "nil")+")) = ^s",
			"{("+fmt.Sprintf(head, "q", "nil")+"), ^q}",
		)
		for _, free := range []string{"World", "p", "q", "zz"} {
			if got := toldExpr(world, "("+fmt.Sprintf(head, free, free+" = nil")+") = nil or (let "+free+" = 1 : true)"); strings.Contains(got, "ErrName") {
				t.Errorf("%s, bound to %s: got %s", free, head, got)
			}
		}
	}
	are(t, world,
		"let q = (let q = 1 : q) : q", "int, 0",
		"all q in {each q in A : q} : q in A", "bool, 0",
		"let q = 1 : (let s = q : s) + (let s = q : s)", "int, 0",
	)
	fail(t, world, "ErrName", "all q in ^q : true", "let q = ^q : 1", "{each q in {^q} : q}")
}

func TestK2Symmetric(t *testing.T) {
	sound(t,
		"atoms A = {x, y} symmetric A", "atoms A = {x} atoms B = {y} symmetric B symmetric A",
		"atoms A = {a1, a2, a3, a4, a5, a6} symmetric A", "atoms A = {a1, a2, a3, a4, a5} atoms B = {b1, b2, b3} symmetric A symmetric B",
		"atoms A = {a1, a2, a3, a4, a5, a6} atoms B = {b} symmetric A symmetric B", "atoms A = {a1, a2, a3, a4, a5, a6, a7}",
	)
	broken(t, "ErrName",
		"symmetric ^A", "symmetric ^A atoms A = {x}", "atoms A = {x} symmetric A symmetric ^A", "atoms A = {x} symmetric ^x",
		"constant k = {1} symmetric ^k", "define k == {1} symmetric ^k", "variable k in {1} symmetric ^k", "symmetric ^M",
		"atoms A = {a1, a2, a3, a4, a5, a6, a7} symmetric ^B",
	)
	many := "atoms A = {a0"
	for i := range 300 {
		many += fmt.Sprint(", a", i+1)
	}
	broken(t, "ErrFull",
		"atoms A = {a1, a2, a3, a4, a5, a6, a7} symmetric ^A symmetric B",
		"atoms A = {a1, a2, a3, a4, a5} atoms B = {b1, b2, b3} atoms C = {c1, c2} symmetric A symmetric C symmetric ^B",
		"atoms A = {a1, a2, a3, a4, a5, a6} atoms B = {b1, b2} symmetric B symmetric ^A",
		many+"} symmetric ^A",
	)
}

// declared is so many declarations, numbered, of the form.
func declared(form string, n int) string {
	var all strings.Builder
	for i := range n {
		fmt.Fprintf(&all, form+" ", i)
	}
	return all.String()
}

func TestK2SoMany(t *testing.T) {
	six, ten := declared("variable v%d in {1}", 6), declared("action a%d == true", 10)
	sound(t, six+ten, declared("constant k%d = 1", 12)+declared("invariant i%d == true", 12)+declared("property p%d == true", 12)+declared("define d%d == 1", 12)+declared("init %d = 1", 12))
	broken(t, "ErrFull",
		six+"variable ^w in {1}", six+"variable ^w in zz", six+"variable ^w in v0'", six+ten+"variable ^w in {1} action a == zz",
		ten+"action ^w == true", ten+"action ^w == zz", ten+six+"action ^w == 1",
	)
	broken(t, "ErrName", six+"variable ^v5 in {1}", ten+"action ^a3 == true", six+"constant k = ^zz variable w in {1}")
}

func TestK2Fair(t *testing.T) {
	sound(t, "action a == true fair weak a fair strong a fair weak a")
	for _, how := range []string{"weak", "strong"} {
		broken(t, "ErrName",
			"fair "+how+" ^a", "fair "+how+" ^a action a == true", "invariant a == true fair "+how+" ^a",
			"define a == true fair "+how+" ^a", "variable a in {true} fair "+how+" ^a", "property a == true fair "+how+" ^a",
			"constant a = true fair "+how+" ^a", "atoms A = {a} fair "+how+" ^a", "atoms a = {b} fair "+how+" ^a",
		)
	}
}

// Each thing that a name may stand for, in each form in which a name may stand.
func TestK3Names(t *testing.T) {
	rows := []struct {
		name, alone, called, primed, unchanged, enabled string
	}{
		{"q", "int, 0", "", "", "", ""},
		{"c", "int, 0", "", "", "", ""},
		{"A", "set of atom, 0", "", "", "", ""},
		{"x", "atom, 0", "", "", "", ""},
		{"n", "int, 1", "", "int, 2", "bool, 2", ""},
		{"low", "int, 0", "", "", "", ""},
		{"step", "bool, 2", "", "", "", ""},
		{"id", "", "int, 0", "", "", ""},
		{"Go", "bool, 2", "", "", "", "bool, 3"},
		{"Inv", "bool, 1", "", "", "", ""},
		{"Prop", "", "", "", "", ""},
		{"World", "", "", "", "", ""},
		{"zz", "", "", "", "", ""},
	}
	for _, row := range rows {
		forms := map[string]string{row.name: row.alone, row.name + "(2)": row.called, row.name + "'": row.primed,
			"unchanged " + row.name: row.unchanged, "enabled " + row.name: row.enabled}
		for form, want := range forms {
			ahead := ""
			if row.name == "q" {
				ahead = "let q = 1 : "
			}
			if want == "" {
				fail(t, world, "ErrName", ahead+mark+form, ahead+"1 + ("+mark+form+")")
				continue
			}
			are(t, world, ahead+form, want)
		}
	}
	fail(t, world, "ErrName", "^zz(1 + b, also)", "^c(also)", "id(^also)", "plus(^zz, zz2)", "^x' = x")
	broken(t, "ErrName", "define d(p) == ^p(1) + zz", "define d(p) == p + ^zz", "property P == true invariant I == ^P")
}

func TestK4Levels(t *testing.T) {
	are(t, world,
		"1", "int, 0", "n", "int, 1", "n'", "int, 2", "unchanged n", "bool, 2", "enabled Go", "bool, 3",
		"always true", "bool, 3", "eventually true", "bool, 3", "true until true", "bool, 3", "true leadsto true", "bool, 3",
		"low", "int, 0", "d", "bool, 1", "step", "bool, 2", "Go", "bool, 2", "Inv", "bool, 1",
		"id(1)", "int, 0", "id(n)", "int, 1", "id(n')", "int, 2", "plus(n, 1)", "int, 1", "plus(1, n')", "int, 2",
		"more(1)", "bool, 1", "more(n)", "bool, 1", "more(n')", "bool, 2", "next(1)", "bool, 2", "next(n)", "bool, 2",
		"let q = n' : 1", "int, 2", "let q = n : q", "int, 1", "let q = 1 : q", "int, 0", "let q = 1 : n'", "int, 2",
		"all q in {n} : true", "bool, 1", "all q in {1} : b'", "bool, 2", "{each q in {1} : q}", "set of int, 0",
		"{1, n, n'}", "set of int, 2", "{n, 1}", "set of int, 1", "if b then 1 else n'", "int, 2", "not b'", "bool, 2",
		"f[x]", "int, 1", "f[x := n']", "fun atom to int, 2", "r.k", "int, 1", "r'.k", "int, 2", "-n'", "int, 2",
		"not enabled Go", "bool, 3", "b and enabled Go", "bool, 3", "enabled Go or b", "bool, 3", "b implies enabled Go", "bool, 3",
		"b iff always b", "bool, 3", "always always b", "bool, 3", "eventually enabled Go", "bool, 3",
		"(always b) until eventually b", "bool, 3", "(always b) leadsto eventually b", "bool, 3",
	)
}

// What speaks of all that comes, as a part of each that may not have it; the mark is where that begins.
func TestK4OfTime(t *testing.T) {
	places := []string{
		"^{T}", "^{1, T}", "^<<T>>", `^["k": T]`, "^[1: T]", "^[T: 1]", "f^[T]", "(T)^[1]", "(T)^.k", "f^[T := 1]", "f^[x := T]", "(T)^[x := 1]",
		"^if T then 1 else 2", "^if b then T else b", "^if b then b else T", "^let q = T : 1", "^let q = 1 : T",
		"^all q in {1} : T", "^some q in {1} : T", "^choose q in {1} : T", "^fun q in {1} : T", "^{each q in {1} : T}", "^{those q in {1} : T}",
		"^all q in (T) : b", "^{each q in (T) : b}", "^id(T)", "^plus(1, T)", "^size(T)", "^len(T)", "^head(T)", "^tail(T)",
		"^append(<<>>, T)", "^values(T)", "^seqs(T, 1)", "^-(T)", "^domain (T)", "^powerset (T)", "^flatten (T)",
	}
	for _, sign := range strings.Fields("= /= < <= > >= in subset -> .. + - union minus ++ * / % inter") {
		places = append(places, "(T) ^"+sign+" b", "b ^"+sign+" (T)")
	}
	for _, timely := range []string{"enabled Go", "always b", "eventually b", "b until b", "b leadsto b", "not enabled Go", "b and always b"} {
		for _, p := range places {
			fail(t, world, "ErrLevel", strings.ReplaceAll(p, "T", timely), "not ("+strings.ReplaceAll(p, "T", timely)+")")
		}
	}
}

// Each declaration that has an expression, with one of each level.
func TestK4Declared(t *testing.T) {
	rows := []struct {
		declaration string
		most        int
	}{
		{"constant ^z = L", 0}, {"variable ^z in if L then {1} else {2}", 0}, {"^init L", 1}, {"invariant ^z == L", 1},
		{"define ^z == L", 2}, {"define ^z(p) == L", 2}, {"action ^z == L", 2}, {"property ^z == L", 3},
	}
	levels := []string{"true", "v = 1", "v' = 1", "always v = 1"}
	const ahead = "variable v in {1} "
	for _, row := range rows {
		for level, expr := range levels {
			text := ahead + strings.ReplaceAll(row.declaration, "L", expr)
			switch {
			case level <= row.most:
				plain, _ := unmarked(text)
				sound(t, plain)
			case level == 3 && strings.Contains(text, "if always"):
				broken(t, "ErrLevel", strings.Replace(strings.Replace(text, mark, "", 1), "if always", mark+"if always", 1))
			default:
				broken(t, "ErrLevel", text)
			}
		}
	}
	broken(t, "ErrLevel",
		ahead+"define w == v' invariant ^z == w = 1", ahead+"action w == v' = 1 ^init w", ahead+"invariant w == v = 1 constant ^z = w",
		ahead+"define w(p) == v constant ^z = w(1)", ahead+"define w(p) == p invariant ^z == w(v') = 1", ahead+"action w == true action ^z == enabled w",
	)
	broken(t, "ErrLevel", ahead+"variable ^z in {v}", ahead+"constant ^z = v", ahead+"constant ^z = v' + v")
}
