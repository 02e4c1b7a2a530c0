package model_test

import (
	"fmt"
	"math/rand"
	"strings"
	"testing"

	"sextant/form"
	"sextant/kinds"
	"sextant/model"
	"sextant/plain"
	"sextant/value"
)

// world has a name for each thing that a name may stand for, and variables of many kinds.
const world = `module World
atoms A = {x, y}
constant c = 2
constant s = {1, 3, 5}
variable b in {false, true}
variable n in 0 .. 3
variable a in A union {nil}
variable f in {[x: 0, y: 0], [x: 1, y: 2]}
variable r in {["k": 1, "m": {}], ["k": 2, "m": {1, 2}]}
variable q in {<<>>, <<1, 2>>}
define low == c
define d == n > c
define step == n' > n
define id(p) == p
define plus(p, o) == p + o
define twice(p) == plus(p, plus(id(p), n))
define more(p) == p > n
define next(p) == all u in s : p + u > n'
define pick(S, p) == {those e in S : e in p}
action Go == b and b' = b
invariant Inv == b or a = nil
property Prop == always b
`

// templates tells, for each letter that stands for a kind, what expressions of that kind there are: a letter in ! ! is an expression of its kind, Q a name that is bound to
// elements of the kind behind the template, if it has one.
var templates = map[byte][]string{
	'b': {"true", "false", "b", "b'", "d", "step", "Inv", "Go", "nil", "unchanged n", "unchanged a", "unchanged q",
		"not (!b!)", "(!b!) and (!b!)", "(!b!) or (!b!)", "(!b!) implies (!b!)", "(!b!) iff (!b!)", "(!i!) = (!i!)", "(!a!) /= (!a!)", "(!f!) = (!f!)", "(!r!) = (!r!)", "(!q!) = (!q!)",
		"(!I!) = (!I!)", "(!i!) < (!i!)", "(!i!) <= (!i!)", "(!i!) > (!i!)", "(!i!) >= (!i!)", "(!i!) in (!I!)", "(!a!) in (!A!)", "(!I!) subset (!I!)", "(!A!) subset (!A!)", "(!I!) in (!J!)",
		"(!f!) in (A -> (!I!))", "(!q!) in seqs(0 .. 2, !i!)", "more(!i!)", "next(!i!)", "id(!b!)", "if !b! then !b! else !b!", "let Q = !i! : !b!|i", "let Q = !b! : !b!|b",
		"all Q in (!I!) : !b!|i", "some Q in (!I!) : !b!|i", "all Q in (!A!) : !b!|a", "some Q in (!J!) : !b!|I", "choose Q in {false, true} : !b!|b", "(!t!) = (!t!)", "(!q!) = (fun Q in (!I!) : !i!)|i"},
	'i': {"0", "1", "7", "n", "n'", "c", "low", "nil", "-(!i!)", "(!i!) + (!i!)", "(!i!) - (!i!)", "(!i!) * (!i!)", "(!i!) / (!i!)", "(!i!) % (!i!)", "size(!I!)", "size(!A!)", "size(!J!)",
		"len(!q!)", "head(!q!)", "(!q!)[!i!]", "(!f!)[!a!]", "(!r!).k", "plus(!i!, !i!)", "twice(!i!)", "id(!i!)", "if !b! then !i! else !i!", "let Q = !i! : !i!|i", "let Q = !I! : !i!|I",
		"choose Q in (!I!) : !b!|i", `(!r!)["k"]`},
	'a': {"x", "y", "a", "a'", "nil", "choose Q in (!A!) : !b!|a", "if !b! then !a! else !a!", "id(!a!)", "head(<<!a!, !a!>>)", "let Q = !a! : !a!|a", "[1: !a!, !i!: !a!][!i!]"},
	't': {`"k"`, `""`, `"a b"`, "nil", `if !b! then !t! else !t!`, `choose Q in (domain (!r!)) : !b!|t`, "id(!t!)"},
	'I': {"s", "{}", "0 .. 2", "(!i!) .. (!i!)", "{!i!}", "{!i!, !i!}", "(!I!) union (!I!)", "(!I!) inter (!I!)", "(!I!) minus (!I!)", "flatten (!J!)", "domain (!q!)", "values(!q!)", "values(!f!)",
		"(!r!).m", "{those Q in (!I!) : !b!}|i", "{each Q in (!I!) : !i!}|i", "{each Q in (!A!) : !i!}|a", "pick(!I!, !I!)", "if !b! then !I! else !I!", "nil", "let Q = !i! : !I!|i"},
	'A': {"A", "{}", "{!a!}", "{!a!, x}", "(!A!) union (!A!)", "(!A!) minus (!A!)", "(!A!) inter (!A!)", "domain (!f!)", "{those Q in (!A!) : !b!}|a", "{each Q in (!I!) : !a!}|i", "pick(!A!, A)", "nil"},
	'J': {"powerset (!I!)", "{!I!, !I!}", "{each Q in (!I!) : !I!}|i", "{those Q in (!J!) : !b!}|I", "(!J!) union (!J!)", "nil"},
	'q': {"q", "q'", "<<>>", "<<!i!>>", "<<!i!, !i!>>", "tail(!q!)", "append(!q!, !i!)", "(!q!) ++ (!q!)", "(!q!)[!i! := !i!]", "choose Q in seqs(!I!, 2) : !b!|q", "if !b! then !q! else !q!", "nil"},
	'f': {"f", "f'", "[x: !i!, y: !i!]", "[!a!: !i!]", "(!f!)[!a! := !i!]", "fun Q in (!A!) : !i!|a", "choose Q in (A -> {0, 1}) : !b!|f", "if !b! then !f! else !f!", "nil"},
	'r': {"r", "r'", `["k": !i!, "m": !I!]`, `["m": !I!, "k": !i!]`, `(!r!)["k" := !i!]`, `(!r!)["m" := !I!]`, "if !b! then !r! else !r!", "nil"},
}

// maker makes expressions over World, right ones, at random.
type maker struct {
	*rand.Rand
	bound map[byte][]string
	fresh int
}

func newMaker(seed int64) *maker {
	return &maker{Rand: rand.New(rand.NewSource(seed)), bound: map[byte][]string{}}
}

func (m *maker) expr(kind byte, deep int) string {
	if names := m.bound[kind]; len(names) > 0 && m.Intn(3) == 0 {
		return names[m.Intn(len(names))]
	}
	list := templates[kind]
	text := list[m.Intn(len(list))]
	for deep <= 0 && strings.Contains(text, "!") {
		text = list[m.Intn(len(list))]
		if kind == 'J' {
			text = "{s, {0}}"
		}
	}
	text, of, binds := strings.Cut(text, "|")
	name := fmt.Sprint("z", m.fresh)
	m.fresh++
	parts := strings.Split(text, "!")
	for i := 1; i < len(parts); i += 2 {
		last := i == len(parts)-2
		if binds && last {
			m.bound[of[0]] = append(m.bound[of[0]], name)
		}
		parts[i] = m.expr(parts[i][0], deep-1)
		if binds && last {
			m.bound[of[0]] = m.bound[of[0]][:len(m.bound[of[0]])-1]
		}
	}
	text = strings.Join(parts, "")
	return strings.ReplaceAll(text, "Q", name)
}

func made(t *testing.T, text string) *model.Model {
	t.Helper()
	m, at, err := model.New(text)
	if err != nil || at != 0 {
		t.Fatalf("New(%q): %v at %d", text, err, at)
	}
	return m
}

// What an expression comes to, as M3 says it; and that fits its kind.
func TestM3AndK8Random(t *testing.T) {
	m, o := made(t, world), newOracle(t, world)
	r := newMaker(1)
	all := "biatIAJqfr"
	tried, nils := 0, 0
	for range 30000 {
		text := r.expr(all[r.Intn(len(all))], 1+r.Intn(4))
		kind, level, _, err := kinds.Expr(world, text)
		if err != nil {
			if told := plain.Told(err).Error(); told != "ErrFull" { // of length, of nesting, of binders within one another
				t.Fatalf("%s: %v", text, told)
			}
			continue
		}
		if level > 2 {
			t.Fatalf("%s: level %d", text, level)
		}
		e, _, _ := form.ReadExpr(text)
		s, u := r.Intn(m.Space()), r.Intn(m.Space())
		o.over(t, m.Variables(), m.State(s), m.State(u))
		want := o.comes(e, nil)
		got, at, err := m.Eval(text, s, u)
		if got != want.Show() || at != 0 || err != nil {
			t.Fatalf("Eval(%q, %d, %d): got %s, %d, %v, want %s", text, s, u, got, at, err, want.Show())
		}
		if !fits(want, kind) {
			t.Fatalf("Eval(%q, %d, %d): %s does not fit %s", text, s, u, got, kind)
		}
		tried++
		if got == "nil" {
			nils++
		}
	}
	if tried < 20000 || nils > tried/2 {
		t.Errorf("%d tried, %d nil", tried, nils)
	}
}

// fits tells whether a value fits a kind (K8).
func fits(v value.V, kind string) bool {
	ok, rest := fitsFirst([]value.V{v}, kind)
	return ok && rest == ""
}

// fitsFirst tells whether values fit the kind that a text begins with, and what stands behind it there.
func fitsFirst(list []value.V, kind string) (bool, string) {
	for _, plain := range []string{"none", "bool", "int", "text", "atom"} {
		if rest, ok := strings.CutPrefix(kind, plain); ok {
			return every(list, func(v value.V) bool { return sort(v) == plain }), rest
		}
	}
	if rest, ok := strings.CutPrefix(kind, "set of "); ok {
		are := every(list, func(v value.V) bool { return sort(v) == "set" })
		fit, rest := fitsFirst(gather(list, elements), rest)
		return are && fit, rest
	}
	if rest, ok := strings.CutPrefix(kind, "seq of "); ok {
		are := every(list, func(v value.V) bool { return sort(v) == "function" && value.Apply("len", v).Show() != "nil" })
		fit, rest := fitsFirst(gather(list, given), rest)
		return are && fit, rest
	}
	are := every(list, func(v value.V) bool { return sort(v) == "function" })
	if rest, ok := strings.CutPrefix(kind, "fun "); ok {
		fit, rest := fitsFirst(gather(list, domain), rest)
		also, rest := fitsFirst(gather(list, given), strings.TrimPrefix(rest, " to "))
		return are && fit && also, rest
	}
	return fitsRec(list, are, strings.TrimPrefix(kind, "rec("))
}

func fitsRec(list []value.V, are bool, kind string) (bool, string) {
	var names []value.V
	for !strings.HasPrefix(kind, ")") {
		name, rest, _ := strings.Cut(strings.TrimPrefix(kind, ", "), ": ")
		key := value.Text(name)
		names = append(names, key)
		fit, rest := fitsFirst(gather(list, func(v value.V) []value.V { return []value.V{value.Apply("at", v, key)} }), rest)
		are, kind = are && fit, rest
	}
	whole := value.Apply("set", names...).Show()
	return are && every(list, func(v value.V) bool { return value.Apply("domain", v).Show() == whole }), kind[1:]
}

// every tells whether something is so of all values but nil, which fits all kinds.
func every(list []value.V, so func(value.V) bool) bool {
	for _, v := range list {
		if sort(v) != "nil" && !so(v) {
			return false
		}
	}
	return true
}

func gather(list []value.V, of func(value.V) []value.V) []value.V {
	var all []value.V
	for _, v := range list {
		all = append(all, of(v)...)
	}
	return all
}

func elements(v value.V) []value.V {
	var list []value.V
	if each, ok := v.Elements(); ok {
		for e := range each {
			list = append(list, e)
		}
	}
	return list
}

func domain(v value.V) []value.V {
	return elements(value.Apply("domain", v))
}

func given(v value.V) []value.V {
	return elements(value.Apply("values", v))
}

// sort tells which sort of value one is.
func sort(v value.V) string {
	switch s := v.Show(); {
	case s == "nil":
		return "nil"
	case s == "true" || s == "false":
		return "bool"
	case s[0] == '"':
		return "text"
	case s[0] == '{':
		return "set"
	case s[0] == '<' || s[0] == '[':
		return "function"
	case s[0] == '-' || '0' <= s[0] && s[0] <= '9':
		return "int"
	}
	return "atom"
}

func TestFits(t *testing.T) {
	for _, row := range []struct {
		value, kind string
		want        bool
	}{
		{"nil", "none", true}, {"1", "none", false}, {"nil", "int", true}, {"1", "int", true}, {"true", "int", false}, {"-1", "text", false}, {`"a"`, "text", true}, {"a", "text", false}, {"a", "atom", true},
		{"{1, nil}", "set of int", true}, {"{1, a}", "set of int", false}, {"{}", "set of none", true}, {"<<1>>", "set of int", false}, {"<<1>>", "seq of int", true}, {"<<a>>", "seq of int", false},
		{"[0: 1]", "seq of int", false}, {"[0: 1]", "fun int to int", true}, {"[0: a]", "fun int to int", false}, {"[a: 0]", "fun int to int", false}, {"<<{1}>>", "fun int to set of int", true},
		{`["a": 1]`, "rec(a: int)", true}, {`["a": 1, "b": {x}]`, "rec(a: int, b: set of atom)", true}, {`["a": 1, "b": {1}]`, "rec(a: int, b: set of atom)", false},
		{`["a": 1]`, "rec(a: int, b: int)", false}, {`["a": 1, "b": 1]`, "rec(a: int)", false}, {"1", "rec(a: int)", false}, {"{nil, <<{}>>}", "set of fun int to set of none", true},
	} {
		if got := fits(reads(t, row.value), row.kind); got != row.want {
			t.Errorf("%s, %s: got %v", row.value, row.kind, got)
		}
	}
}

// odd are ways to make an expression of others, %s, of whatever kinds; Q is a fresh name.
var odd = []string{
	"not (%s)", "-(%s)", "domain (%s)", "powerset (%s)", "flatten (%s)", "size(%s)", "len(%s)", "head(%s)", "tail(%s)", "values(%s)", "id(%s)", "{%s}", "<<%s>>", `["k": %s]`, "(%s).k", "(%s).m",
	"{%s, %s}", "<<%s, %s>>", "[%s: %s]", `["k": %s, "m": %s]`, "(%s)[%s]", "append(%s, %s)", "seqs(%s, %s)", "(%s) = (%s)", "(%s) in (%s)", "(%s) subset (%s)", "(%s) union (%s)", "(%s) inter (%s)",
	"(%s) minus (%s)", "(%s) -> (%s)", "(%s) .. (%s)", "(%s) ++ (%s)", "(%s) + (%s)", "(%s) / (%s)", "(%s) < (%s)", "(%s) and (%s)", "(%s) implies (%s)", "pick(%s, %s)", `(%s)["k" := %s]`,
	"(%s)[%s := %s]", "if %s then %s else %s", "[%s: %s, %s: %s]", "let Q = %s : <<Q, %s>>", "{each Q in (%s) : <<Q>>}", "{each Q in (%s) : %s}", "fun Q in (%s) : Q", "fun Q in (%s) : %s",
	"{those Q in (%s) : Q = (%s)}", "{those Q in (%s) : %s}", "choose Q in (%s) : Q /= (%s)", "all Q in (%s) : Q in (%s)", "some Q in (%s) : %s", "fun Q in (%s) : {Q, %s}",
}

// Kinds that modules seldom have, none and what is made of it among them.
func TestK8OddKinds(t *testing.T) {
	m, o := made(t, world), newOracle(t, world)
	r := newMaker(2)
	pool := []string{"nil", "{}", "<<>>", "1", "2", "n", "n'", `"k"`, "x", "A", "a'", "true", "b", "f", "r", "q'", "s", "[1: 2]", "[2: nil]", "{nil}", "unchanged n"}
	found := map[string]int{}
	for i := range 100000 {
		way := odd[r.Intn(len(odd))]
		for strings.Contains(way, "%s") {
			way = strings.Replace(way, "%s", pool[r.Intn(len(pool))], 1)
		}
		text := strings.ReplaceAll(way, "Q", fmt.Sprint("z", i))
		if len(text) > 60 {
			continue
		}
		kind, _, _, err := kinds.Expr(world, text)
		if err != nil {
			continue
		}
		e, _, _ := form.ReadExpr(text)
		s, u := r.Intn(m.Space()), r.Intn(m.Space())
		o.over(t, m.Variables(), m.State(s), m.State(u))
		want := o.comes(e, nil)
		got, _, err := m.Eval(text, s, u)
		if got != want.Show() || err != nil || !fits(want, kind) {
			t.Fatalf("Eval(%q, %d, %d): got %s, %v, want %s, of kind %s", text, s, u, got, err, want.Show(), kind)
		}
		if found[kind]++; found[kind] < 20 {
			pool = append(pool, text)
		}
	}
	for _, kind := range []string{"none", "set of none", "seq of none", "fun none to none", "set of set of none", "set of fun none to none", "rec(k: none)", "fun int to none", "set of seq of none"} {
		if found[kind] == 0 {
			t.Errorf("no %s was found", kind)
		}
	}
	if len(found) < 200 {
		t.Errorf("only %d kinds", len(found))
	}
}
