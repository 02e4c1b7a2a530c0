package kinds_test

import (
	"fmt"
	"strings"
	"testing"
)

// samples are expressions over World, with their kinds.
var samples = []struct {
	expr, kind string
}{
	{"nil", "none"}, {"true", "bool"}, {"1", "int"}, {`"t"`, "text"}, {"x", "atom"}, {"{}", "set of none"}, {"{1}", "set of int"}, {"A", "set of atom"},
	{"{{1}}", "set of set of int"}, {"<<>>", "seq of none"}, {"<<1>>", "seq of int"}, {"<<x>>", "seq of atom"}, {"[nil: nil]", "fun none to none"},
	{"[1: 2]", "fun int to int"}, {"[x: 2]", "fun atom to int"}, {`["in": 2]`, "fun text to int"}, {`["k": 1]`, "rec(k: int)"},
	{`["k": nil]`, "rec(k: none)"}, {`["k": x]`, "rec(k: atom)"}, {`["m": 1]`, "rec(m: int)"}, {`["m": {}, "k": 1]`, "rec(k: int, m: set of none)"},
}

// needs looks for which samples may stand in the place of S: those whose kinds are told, and give what stands behind each.
func needs(t *testing.T, marked string, gives map[string]string) {
	t.Helper()
	for _, sample := range samples {
		text := strings.ReplaceAll(marked, "S", "("+sample.expr+")")
		kind, ok := gives[sample.kind]
		if !ok {
			fail(t, world, "ErrKind", text)
			continue
		}
		expr, _ := unmarked(text)
		are(t, world, expr, kind+", 0")
	}
}

// only says that all of some kinds give the same.
func only(gives string, kinds ...string) map[string]string {
	all := map[string]string{}
	for _, k := range kinds {
		all[k] = gives
	}
	return all
}

func every(gives string) map[string]string {
	all := map[string]string{}
	for _, s := range samples {
		all[s.kind] = gives
	}
	return all
}

func TestK5Themselves(t *testing.T) {
	for _, s := range samples {
		are(t, world, s.expr, s.kind+", 0")
	}
	are(t, world, "false", "bool, 0", `""`, "text, 0", "-1", "int, 0")
}

func TestK5Names(t *testing.T) {
	are(t, world,
		"c", "int, 0", "low", "int, 0", "d", "bool, 1", "x", "atom, 0", "A", "set of atom, 0", "b", "bool, 1", "b'", "bool, 2",
		"n", "int, 1", "n'", "int, 2", "a", "atom, 1", "a'", "atom, 2", "f", "fun atom to int, 1", "f'", "fun atom to int, 2",
		"r", "rec(k: int, m: set of none), 1", "r'", "rec(k: int, m: set of none), 2", "Go", "bool, 2", "Inv", "bool, 1",
		"unchanged n", "bool, 2", "unchanged r", "bool, 2", "enabled Go", "bool, 3",
	)
	const of = "module M constant k = nil define e == {nil} variable v in nil variable w in {} action a == nil invariant i == nil init nil property p == nil"
	are(t, of, "k", "none, 0", "e", "set of none, 0", "v", "none, 1", "v'", "none, 2", "w", "none, 1", "a", "bool, 0", "i", "bool, 0", "enabled a", "bool, 3")
}

// Two kinds join, or do not, in either order, and so in all that asks for it.
func TestK5Join(t *testing.T) {
	rows := []struct {
		a, b, joined string
	}{
		{"nil", "nil", "none"}, {"nil", "1", "int"}, {"nil", `["k": 1]`, "rec(k: int)"}, {"nil", "<<>>", "seq of none"}, {"nil", "[x: 1]", "fun atom to int"},
		{"1", "2", "int"}, {"1", "true", ""}, {"1", `"t"`, ""}, {"1", "x", ""}, {"1", "{1}", ""}, {"x", `"x"`, ""}, {"x", "y", "atom"},
		{"{}", "{1}", "set of int"}, {"{1}", "{x}", ""}, {"{{}}", "{{1}}", "set of set of int"}, {"{{x}}", "{{1}}", ""}, {"{}", "<<>>", ""}, {"{nil}", "A", "set of atom"},
		{"<<>>", "<<1>>", "seq of int"}, {"<<x>>", "<<1>>", ""}, {"<<{}>>", "<<{1}>>", "seq of set of int"},
		{"<<>>", "[nil: nil]", "fun int to none"}, {"<<1>>", "[nil: nil]", "fun int to int"}, {"<<>>", "[2: x]", "fun int to atom"}, {"<<x>>", "[2: nil]", "fun int to atom"},
		{"<<1>>", "[x: 1]", ""}, {"<<1>>", "[2: x]", ""}, {"<<{}>>", "[2: {x}]", "fun int to set of atom"}, {"<<>>", "[x: nil]", ""},
		{"[x: 1]", "[y: nil]", "fun atom to int"}, {"[nil: x]", "[1: nil]", "fun int to atom"}, {"[x: 1]", "[1: 1]", ""}, {"[x: 1]", "[x: x]", ""},
		{`["k": 1]`, `["k": nil]`, "rec(k: int)"}, {`["k": 1]`, `["k": x]`, ""}, {`["k": 1]`, `["m": 1]`, ""}, {`["k": 1]`, `["k": 1, "m": 1]`, ""},
		{`["k": {}, "m": nil]`, `["m": <<>>, "k": {1}]`, "rec(k: set of int, m: seq of none)"}, {`["k": 1]`, `["in": 1]`, ""}, {`["k": 1]`, "[nil: nil]", ""},
		{`["k": <<1>>]`, `["k": [1: nil]]`, "rec(k: fun int to int)"}, {`["k": 1]`, "<<>>", ""}, {`["k": 1, "m": 1]`, `["k": 1, "n": 1]`, ""},
		{"{<<>>, [1: 1]}", "{<<nil>>}", "set of fun int to int"}, {"<<<<>>>>", "<<[nil: {}]>>", "seq of fun int to set of none"},
	}
	for _, row := range rows {
		for _, p := range [][2]string{{row.a, row.b}, {row.b, row.a}} {
			texts := []string{"^{%s, %s}", "^<<%s, %s>>", "^if true then %s else %s", "(%s) ^= (%s)", "(%s) ^/= (%s)", "(%s) ^in {%s}", "{%s} ^union {%s}",
				"{%s} ^inter {%s}", "{%s} ^minus {%s}", "{%s} ^subset {%s}", "^append(<<%s>>, %s)", "<<%s>> ^++ <<%s>>", "^[%s: 1, %s: 2]", "^[1: %s, 2: %s]"}
			kinds := []string{"set of K", "seq of K", "K", "bool", "bool", "bool", "set of K", "set of K", "set of K", "bool", "seq of K", "seq of K", "fun K to int", "fun int to K"}
			for i, text := range texts {
				marked := fmt.Sprintf(text, p[0], p[1])
				if row.joined == "" {
					fail(t, world, "ErrKind", marked)
					continue
				}
				expr, _ := unmarked(marked)
				are(t, world, expr, strings.Replace(kinds[i], "K", row.joined, 1)+", 0")
			}
		}
	}
	are(t, world, "{nil, 1, nil}", "set of int, 0", "{<<>>, <<1>>, [nil: nil]}", "set of fun int to int, 0", "{[1: nil], <<x>>, <<>>}", "set of fun int to atom, 0")
	fail(t, world, "ErrKind", "^{1, nil, x}", "^<<nil, 1, 2, x>>", "^{<<>>, [nil: nil], [x: 1]}")
}

func TestK5Bools(t *testing.T) {
	needs(t, "^not S", only("bool", "bool", "none"))
	for _, sign := range strings.Fields("and or implies iff") {
		needs(t, "S ^"+sign+" true", only("bool", "bool", "none"))
		needs(t, "nil ^"+sign+" S", only("bool", "bool", "none"))
	}
	for _, sample := range samples {
		for _, text := range []string{"^always (S)", "^eventually (S)", "(S) ^until true", "true ^until (S)", "(S) ^leadsto true", "true ^leadsto (S)"} {
			marked := strings.Replace(text, "S", sample.expr, 1)
			if expr, _ := unmarked(marked); sample.kind == "bool" || sample.kind == "none" {
				are(t, world, expr, "bool, 3")
				continue
			}
			fail(t, world, "ErrKind", marked)
		}
	}
}

func TestK5Numbers(t *testing.T) {
	for _, sign := range strings.Fields("< <= > >=") {
		needs(t, "S ^"+sign+" 1", only("bool", "int", "none"))
		needs(t, "nil ^"+sign+" S", only("bool", "int", "none"))
	}
	for _, sign := range strings.Fields("+ - * / %") {
		needs(t, "S ^"+sign+" nil", only("int", "int", "none"))
		needs(t, "1 ^"+sign+" S", only("int", "int", "none"))
	}
	needs(t, "^-S", only("int", "int", "none"))
	needs(t, "S ^.. 1", only("set of int", "int", "none"))
	needs(t, "nil ^.. S", only("set of int", "int", "none"))
}

func TestK5Sets(t *testing.T) {
	sets := []string{"none", "set of none", "set of int", "set of atom", "set of set of int"}
	needs(t, "nil ^in S", only("bool", sets...))
	needs(t, "1 ^in S", only("bool", "none", "set of none", "set of int"))
	needs(t, "S ^in nil", every("bool"))
	needs(t, "S ^in {x}", only("bool", "none", "atom"))
	for _, sign := range strings.Fields("union inter minus") {
		same := map[string]string{"none": "none", "set of none": "set of none", "set of int": "set of int", "set of atom": "set of atom", "set of set of int": "set of set of int"}
		needs(t, "S ^"+sign+" nil", same)
		needs(t, "nil ^"+sign+" S", same)
		needs(t, "S ^"+sign+" S", same)
		needs(t, "{1} ^"+sign+" S", only("set of int", "none", "set of none", "set of int"))
	}
	needs(t, "S ^subset nil", only("bool", sets...))
	needs(t, "nil ^subset S", only("bool", sets...))
	needs(t, "S ^subset {x}", only("bool", "none", "set of none", "set of atom"))
	needs(t, "S ^-> {x}", map[string]string{"none": "set of fun none to atom", "set of none": "set of fun none to atom", "set of int": "set of fun int to atom",
		"set of atom": "set of fun atom to atom", "set of set of int": "set of fun set of int to atom"})
	needs(t, "{x} ^-> S", map[string]string{"none": "set of fun atom to none", "set of none": "set of fun atom to none", "set of int": "set of fun atom to int",
		"set of atom": "set of fun atom to atom", "set of set of int": "set of fun atom to set of int"})
	needs(t, "^powerset S", map[string]string{"none": "set of set of none", "set of none": "set of set of none", "set of int": "set of set of int",
		"set of atom": "set of set of atom", "set of set of int": "set of set of set of int"})
	needs(t, "^flatten S", map[string]string{"none": "set of none", "set of none": "set of none", "set of set of int": "set of int"})
	needs(t, "^size(S)", only("int", sets...))
	needs(t, "^seqs(S, 1)", map[string]string{"none": "set of seq of none", "set of none": "set of seq of none", "set of int": "set of seq of int",
		"set of atom": "set of seq of atom", "set of set of int": "set of seq of set of int"})
	needs(t, "^seqs(A, S)", only("set of seq of atom", "int", "none"))
}

func TestK5WrittenOut(t *testing.T) {
	are(t, world,
		"[1: x]", "fun int to atom, 0", "[nil: 1, x: nil]", "fun atom to int, 0", `["k": 1, "m": x, "a": {}]`, "rec(a: set of none, k: int, m: atom), 0",
		`["k": 1, "k": x]`, "rec(k: int), 0", `["k": nil, "k": x]`, "rec(k: none), 0", `["k": 1, "m": x, "k": true, "m": 1]`, "rec(k: int, m: atom), 0",
		`["in": 1]`, "fun text to int, 0", `["": 1]`, "fun text to int, 0", `["k k": 1]`, "fun text to int, 0", `["abcdefghijklmnop": 1]`, "rec(abcdefghijklmnop: int), 0",
		`["abcdefghijklmnopq": 1]`, "fun text to int, 0", `["k": 1, "in": 2]`, "fun text to int, 0", `["1": 1]`, "fun text to int, 0", `["_a": 1]`, "fun text to int, 0",
		`["k": 1, if true then "m" else "o": 2]`, "fun text to int, 0", `let q = "k" : [q: 1]`, "fun text to int, 0", `["x": x, "A": A]`, "rec(A: set of atom, x: atom), 0",
		`["k": ["m": ["o": 1]]]`, "rec(k: rec(m: rec(o: int))), 0", `["b": 1, "B": 1, "a1": 1, "a_": 1, "a": 1]`, "rec(B: int, a: int, a1: int, a_: int, b: int), 0",
	)
	fail(t, world, "ErrKind", `^["k": 1, "in": x]`, `^["k": 1, 2: 1]`, "^[1: 1, x: 1]", "^[1: 1, 2: x]", `^["k": 1, nil: x]`)
}

func TestK5At(t *testing.T) {
	needs(t, "S^[nil]", map[string]string{"none": "none", "seq of none": "none", "seq of int": "int", "seq of atom": "atom", "fun none to none": "none",
		"fun int to int": "int", "fun atom to int": "int", "fun text to int": "int"})
	needs(t, "S^[1]", map[string]string{"none": "none", "seq of none": "none", "seq of int": "int", "seq of atom": "atom", "fun none to none": "none", "fun int to int": "int"})
	rec := map[string]string{"none": "none", "fun none to none": "none", "fun text to int": "int", "rec(k: int)": "int", "rec(k: none)": "none",
		"rec(k: atom)": "atom", "rec(k: int, m: set of none)": "int"}
	needs(t, "S^.k", rec)
	needs(t, `S^["k"]`, rec)
	needs(t, `S^[if true then "k" else "k"]`, map[string]string{"none": "none", "fun none to none": "none", "fun text to int": "int"})
	needs(t, `[x: 1]^[S]`, only("int", "none", "atom"))
	needs(t, "<<x>>^[S]", only("atom", "none", "int"))
	needs(t, "nil^[S]", every("none"))
	are(t, world, `["k": ["m": x]].k.m`, "atom, 0", `["in": 1]["in"]`, "int, 0", `["k": 1]["in" := 2]`, "ErrKind at 8", "f[x]", "int, 1", `["k": 1][("k")]`, "int, 0")
	fail(t, world, "ErrKind", `["k": 1]^.o`, `["k": 1]^["in"]`, `["k": ["m": x]].k^.k`, "r.k^.k", "x^.x", "1^[1]")
	fail(t, world, "ErrKind", `let q = "k" : ["k": 1]^[q]`)
}

func TestK5Put(t *testing.T) {
	needs(t, "S^[nil := nil]", map[string]string{"none": "none", "seq of none": "seq of none", "seq of int": "seq of int", "seq of atom": "seq of atom",
		"fun none to none": "fun none to none", "fun int to int": "fun int to int", "fun atom to int": "fun atom to int", "fun text to int": "fun text to int"})
	needs(t, "S^[1 := 2]", map[string]string{"none": "none", "seq of none": "seq of int", "seq of int": "seq of int", "fun none to none": "fun none to int", "fun int to int": "fun int to int"})
	needs(t, `S^["k" := x]`, map[string]string{"none": "none", "fun none to none": "fun none to atom", "rec(k: none)": "rec(k: atom)", "rec(k: atom)": "rec(k: atom)"})
	needs(t, `S^["k" := nil]`, map[string]string{"none": "none", "fun none to none": "fun none to none", "fun text to int": "fun text to int", "rec(k: int)": "rec(k: int)",
		"rec(k: none)": "rec(k: none)", "rec(k: atom)": "rec(k: atom)", "rec(k: int, m: set of none)": "rec(k: int, m: set of none)"})
	needs(t, "nil^[S := S]", every("none"))
	are(t, world, `["a": 1, "k": {}, "o": x]["k" := {1}]`, "rec(a: int, k: set of int, o: atom), 0", `["a": nil, "k": 1]["a" := 1]`, "rec(a: int, k: int), 0",
		`["a": 1, "k": nil]["k" := <<>>].k`, "seq of none, 0", "[nil: nil][x := 1][1 := 2]", "fun none to int, 0", "<<{}>>[1 := {x}]", "seq of set of atom, 0")
	fail(t, world, "ErrKind", `["k": 1]^["k" := x]`, `["k": 1]^["m" := 1]`, `["k": 1]^[nil := 1]`, "<<1>>^[x := 1]", "<<1>>^[1 := x]", "[x: 1]^[1 := 1]", "[x: 1]^[x := x]")
}

func TestK5DomainValues(t *testing.T) {
	needs(t, "^domain S", map[string]string{"none": "set of none", "seq of none": "set of int", "seq of int": "set of int", "seq of atom": "set of int",
		"fun none to none": "set of none", "fun int to int": "set of int", "fun atom to int": "set of atom", "fun text to int": "set of text", "rec(k: int)": "set of text",
		"rec(k: none)": "set of text", "rec(k: atom)": "set of text", "rec(m: int)": "set of text", "rec(k: int, m: set of none)": "set of text"})
	needs(t, "^values(S)", map[string]string{"none": "set of none", "seq of none": "set of none", "seq of int": "set of int", "seq of atom": "set of atom",
		"fun none to none": "set of none", "fun int to int": "set of int", "fun atom to int": "set of int", "fun text to int": "set of int", "rec(k: int)": "set of int",
		"rec(k: none)": "set of none", "rec(k: atom)": "set of atom", "rec(m: int)": "set of int"})
	are(t, world, `values(["k": {}, "m": {1}, "o": nil])`, "set of set of int, 0", `domain ["k": 1, "m": x]`, "set of text, 0")
	fail(t, world, "ErrKind", `^values(["k": 1, "m": nil, "o": x])`)
}

func TestK5Sequences(t *testing.T) {
	same := map[string]string{"none": "seq of none", "seq of none": "seq of none", "seq of int": "seq of int", "seq of atom": "seq of atom"}
	needs(t, "^len(S)", only("int", "none", "seq of none", "seq of int", "seq of atom"))
	needs(t, "^head(S)", map[string]string{"none": "none", "seq of none": "none", "seq of int": "int", "seq of atom": "atom"})
	needs(t, "^tail(S)", same)
	needs(t, "^append(S, nil)", same)
	needs(t, "^append(S, 1)", only("seq of int", "none", "seq of none", "seq of int"))
	needs(t, "^append(<<x>>, S)", only("seq of atom", "none", "atom"))
	needs(t, "S ^++ nil", same)
	needs(t, "nil ^++ S", same)
	needs(t, "S ^++ S", same)
	needs(t, "<<1>> ^++ S", only("seq of int", "none", "seq of none", "seq of int"))
}

func TestK5Chosen(t *testing.T) {
	same := map[string]string{}
	for _, s := range samples {
		same[s.kind] = s.kind
	}
	needs(t, "^if S then 1 else nil", only("int", "bool", "none"))
	needs(t, "^if true then S else nil", same)
	needs(t, "^if nil then nil else S", same)
	needs(t, "^let q = S : q", same)
	needs(t, "^let q = nil : S", same)
}

func TestK5Binders(t *testing.T) {
	elements := map[string]string{"none": "none", "set of none": "none", "set of int": "int", "set of atom": "atom", "set of set of int": "set of int"}
	wrap := func(form string) map[string]string {
		all := map[string]string{}
		for set, element := range elements {
			all[set] = strings.Replace(form, "E", element, 1)
		}
		return all
	}
	for _, word := range []string{"all", "some"} {
		needs(t, "^"+word+" q in S : true", wrap("bool"))
		needs(t, "^"+word+" q in {1} : S", only("bool", "bool", "none"))
	}
	needs(t, "^choose q in S : true", wrap("E"))
	needs(t, "^choose q in {x} : S", only("atom", "bool", "none"))
	needs(t, "^{those q in S : nil}", wrap("set of E"))
	needs(t, "^{those q in {x} : S}", only("set of atom", "bool", "none"))
	needs(t, "^{each q in S : q}", wrap("set of E"))
	needs(t, "^fun q in S : {q}", map[string]string{"none": "fun none to set of none", "set of none": "fun none to set of none", "set of int": "fun int to set of int",
		"set of atom": "fun atom to set of atom", "set of set of int": "fun set of int to set of set of int"})
	for _, s := range samples {
		are(t, world, "{each q in {x} : "+s.expr+"}", "set of "+s.kind+", 0", "fun q in {x} : "+s.expr, "fun atom to "+s.kind+", 0")
	}
	fail(t, world, "ErrKind", "all q in {1} : q ^= x", "{each q in {x} : q ^+ 1}", "let q = x : q ^+ 1")
}

// How many parts the words with brackets have.
func TestK5Brackets(t *testing.T) {
	for _, word := range strings.Fields("size len head tail values append seqs") {
		for n := 1; n <= 3; n++ {
			text := word + "(nil" + strings.Repeat(", nil", n-1) + ")"
			wants := 1
			if word == "append" || word == "seqs" {
				wants = 2
			}
			if got := toldExpr(world, text); n == wants && strings.HasPrefix(got, "Err") {
				t.Errorf("%s: got %s", text, got)
			}
			if n != wants {
				fail(t, world, "ErrKind", mark+text, "1 + "+mark+text)
			}
		}
	}
	fail(t, world, "ErrKind", "size(1 ^+ x, 2)", "^size(A, A)", "^append(<<>>)")
}

func TestK5Calls(t *testing.T) {
	for _, s := range samples {
		are(t, world, "id("+s.expr+")", s.kind+", 0", "{id("+s.expr+"), nil}", "set of "+s.kind+", 0")
	}
	needs(t, "^plus(S, nil)", only("int", "int", "none"))
	needs(t, "^plus(1, S)", only("int", "int", "none"))
	fail(t, world, "ErrKind", "^id(1, 2)", "^plus(1)", "^plus(1, 2, 3)", "1 + ^plus(x, 1)", "^plus(1, id(x))", "plus(1, id(1 ^+ x))", "id(^plus(x, x))", "1 ^+ id(x)")
	const deep = `module M define one(p) == p + 1 define two(p, q) == {one(p), q} define three(p) == let s = p : two(s, head(p)) define four(p) == fun u in p : [u: p]
define same(p, q) == p = q define field(p) == p.k`
	are(t, deep, "two(1, nil)", "set of int, 0", "four({1})", "fun int to fun int to set of int, 0", "four(nil)", "fun none to fun none to none, 0", "same(1, 2)", "bool, 0",
		`field(["k": {}])`, "set of none, 0", `field(["k": field(["k": 1])])`, "int, 0")
	fail(t, deep, "ErrKind", "^two({}, 1)", `^two(1, "t")`, "^three(1)", "^three(<<1>>)", "^four(1)", "^same(1, {})", "^field(1)", `^field(["m": 1])`, `field(^field(["m": 1]))`)
	broken(t, "ErrKind",
		"define z(p) == 1 ^+ {}", "define z(p) == {p} ^+ 1", "define z(p) == p + 1 constant k = ^z({})", "define z(p) == p + 1 define y(q) == z(q) constant k = ^y({})",
		"define z(p) == p + 1 define y(q) == ^z({q})", "define z(p) == 1 define y(q) == ^z(q, q)", "constant k = {} define z(p) == p + 1 define y == ^z(k)",
	)
	sound(t, "define z(p) == p + size(p)", "define z(p) == p + size(p) constant k = z(nil)")
	broken(t, "ErrKind", "define z(p) == p + size(p) constant k = ^z(1)")
}

// What an expression must be where it is declared.
func TestK5Declared(t *testing.T) {
	for _, s := range samples {
		expr := strings.ReplaceAll(strings.ReplaceAll(s.expr, "x", "t"), "A", "T")
		const ahead = "atoms T = {t} "
		sound(t, ahead+"constant k = "+expr, ahead+"define k == "+expr, ahead+"define k(p) == "+expr)
		for _, text := range []string{"^init %s", "action ^z == %s", "invariant ^z == %s", "property ^z == %s"} {
			marked := ahead + fmt.Sprintf(text, expr)
			if plain, _ := unmarked(marked); s.kind == "bool" || s.kind == "none" {
				sound(t, plain)
				continue
			}
			broken(t, "ErrKind", marked)
		}
		marked := ahead + "variable ^z in " + expr
		if plain, _ := unmarked(marked); strings.HasPrefix(s.kind, "set of") || s.kind == "none" {
			sound(t, plain)
			continue
		}
		broken(t, "ErrKind", marked)
	}
}
