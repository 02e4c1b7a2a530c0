package kinds_test

import (
	"fmt"
	"math/rand"
	"strings"
	"testing"
	"time"

	"sextant/form"
	"sextant/kinds"
)

// Part by part from the left; then ErrLevel, then ErrKind.
func TestK6Order(t *testing.T) {
	fail(t, world, "ErrName", "(^zz + 1) + (1 + x)", "id(^zz) + zz", "{1, ^zz} + {always b}", "{^zz, 1 + x}", "(1 + ^zz) union 1", "f[^zz] + 1", "1[^zz]", "x[1 := ^zz]",
		"{^zz, {always b}}", "if ^zz then 1 + x else 1", "if 1 then ^zz else x", "[1: ^zz, 2 + x: 1]", "always ^zz", "{always ^zz}", "plus(^zz)", "size(1, ^zz)")
	fail(t, world, "ErrKind", "(1 ^+ x) + zz", "{1 ^+ x, zz}", "{1 ^+ x, {always b}}", "(1 ^in 2) + zz", "{always (1 ^+ x)}", "{^always 1}", "if 1 ^+ x then zz else zz",
		"f[1 ^+ x] + zz", "(1)^[2] + zz", "plus(1 ^+ x)", "^plus(x, 1) + zz", "(not not ^-x) + zz", "let q = 1 ^+ x : zz", "id(1 ^+ x, always b)")
	fail(t, world, "ErrLevel", "^{always b} + zz", "^{1, x, always b}", "1 ^+ (always b)", "({} ^= (always b)) + 1", "^size(1, always b)", "^plus(always b)", "^plus(x, always b)",
		"^if 1 then always b else 2", "x^[always b]", "({1} ^union (always b)) and zz", "^-(enabled Go)", "^id(always b, x)")
}

// Of what binds: the part ahead, the name, the part behind, the level, the kind.
func TestK6Binders(t *testing.T) {
	for _, head := range []string{"all", "some", "choose", "fun"} {
		fail(t, world, "ErrName", head+" x in ^zz : 1 + x", "^"+head+" x in 1 : zz", head+" q in 1 : ^zz", "^"+head+" x in (always b) : zz", head+" q in (always b) : ^zz", head+" q in ^zz : zz2")
		fail(t, world, "ErrKind", head+" x in (1 ^+ x) : zz", head+" q in 1 : 1 ^+ x", "^"+head+" q in 1 : q + 1 = 1", "^"+head+" q in 1 : q", "^"+head+" q in b : q.k.k = q")
		fail(t, world, "ErrLevel", "^"+head+" q in 1 : always b", "^"+head+" q in (always b) : 1")
	}
	for _, head := range []string{"each", "those"} {
		fail(t, world, "ErrName", "{"+head+" x in ^zz : 1}", "^{"+head+" x in 1 : zz}", "{"+head+" q in 1 : ^zz}")
		fail(t, world, "ErrKind", "{"+head+" x in (1 ^+ x) : zz}", "{"+head+" q in 1 : 1 ^+ x}", "^{"+head+" q in 1 : q and q}")
		fail(t, world, "ErrLevel", "^{"+head+" q in 1 : always b}")
	}
	fail(t, world, "ErrName", "let x = ^zz : zz", "^let x = 1 : zz", "^let x = (always b) : zz", "let q = (always b) : ^zz")
	fail(t, world, "ErrKind", "let x = 1 ^+ x : zz", "let q = always b : 1 ^+ x")
	fail(t, world, "ErrLevel", "^let q = always b : q")
}

// Of a declaration: its names, how many there are, its expression, its level, its kind, then ErrFull.
func TestK6Declaration(t *testing.T) {
	const ahead = "atoms A = {x} variable v in {1} "
	four := "{each q in A : {each r in A : {each s in A : {each u in A : %s}}}}"
	full := fmt.Sprintf(four, "1")
	broken(t, "ErrName", ahead+"define ^v(v) == zz", ahead+"define z(^v) == zz", ahead+"constant z = ^zz + v' + "+full, ahead+"init ^zz + v'")
	broken(t, "ErrKind", ahead+"constant z = v' ^+ {}", ahead+"init v' ^+ {}", ahead+"invariant ^z == "+full, ahead+"^init "+full, ahead+"variable ^z in size("+full+")")
	broken(t, "ErrLevel", ahead+"invariant ^z == v'", ahead+"^init v'", ahead+"variable ^z in v", ahead+"variable ^z in v'", ahead+"constant ^z = "+fmt.Sprintf(four, "v"), ahead+"invariant ^z == "+fmt.Sprintf(four, "v'"))
	broken(t, "ErrFull", ahead+"constant ^z = "+full, ahead+"define ^z == "+full+" constant k = zz", ahead+"variable ^z in "+full, ahead+"^init {} = "+full+" init zz",
		ahead+"action ^z == {} = "+full, ahead+"invariant ^z == {} = "+full, ahead+"property ^z == {} = "+full, ahead+"define ^z(p) == "+full)
	broken(t, "ErrName", ahead+"constant k = ^zz constant v = "+full)
}

// base is a module whose name o, as an expression, costs 400.
const base = "define o == 0" + zeros199 + " "

const zeros199 = zeros9 + zeros9 + zeros9 + zeros9 + zeros9 + zeros9 + zeros9 + zeros9 + zeros9 + zeros9 + zeros9 + zeros9 + zeros9 + zeros9 + zeros9 +
	zeros9 + zeros9 + zeros9 + zeros9 + zeros9 + zeros9 + zeros9 + "+0"

const zeros9 = "+0+0+0+0+0+0+0+0+0"

// costing is an expression, an int over base, that costs so much (more than 400).
func costing(cost int) string {
	text := "o"
	cost -= 400
	for ; cost >= 401; cost -= 401 {
		text += "+o"
	}
	for ; cost >= 2; cost -= 2 {
		text += "+0"
	}
	return strings.Repeat("-", cost) + text
}

// costingBool is a bool over base that costs so much.
func costingBool(cost int) string {
	return "0=" + costing(cost-2)
}

func TestK6Cost(t *testing.T) {
	rows := []struct {
		ahead string
		costs func(int) string
	}{
		{"constant ^z =", costing}, {"variable ^z in 0 ..", func(n int) string { return costing(n - 2) }}, {"define ^z ==", costing}, {"define ^z(p) ==", costing},
		{"^init", costingBool}, {"action ^z ==", costingBool}, {"invariant ^z ==", costingBool}, {"property ^z ==", costingBool},
		{"property ^z == always", func(n int) string { return "(" + costingBool(n-1) + ")" }},
	}
	for _, row := range rows {
		text, _ := unmarked(base + row.ahead + " " + row.costs(4000))
		sound(t, text)
		broken(t, "ErrFull", base+row.ahead+" "+row.costs(4001), base+row.ahead+" "+row.costs(4002))
	}
}

// What a name costs: of some things their expression, too.
func TestK6CostOfNames(t *testing.T) {
	rows := []struct {
		declaration string
		costs       func(int) string
		expr        string
		more        int // than what the declared expression costs
	}{
		{"define z ==", costing, "z", 1}, {"define z(p) ==", costing, "z(0)", 2}, {"define z(p, q) ==", costing, "z(0, {0, 0})", 5},
		{"action z ==", costingBool, "z", 1}, {"action z ==", costingBool, "enabled z", 1}, {"invariant z ==", costingBool, "z", 1},
		{"invariant z ==", costingBool, "not z", 2}, {"action z ==", costingBool, "always enabled z", 2},
	}
	for _, row := range rows {
		module := "module M " + base + row.declaration + " "
		if got := toldExpr(module+row.costs(4000-row.more), row.expr); strings.HasPrefix(got, "Err") {
			t.Errorf("%s %s: got %s", row.declaration, row.expr, got)
		}
		are(t, module+row.costs(4001-row.more), row.expr, "ErrFull at 0")
		are(t, module+row.costs(4000), row.expr, "ErrFull at 0")
	}
	module := "module M " + base + "constant z = " + costing(4000)
	are(t, module, "z + z", "int, 0")
	are(t, "module M "+base+"variable z in 0 .. "+costing(3998), "z + z'", "int, 2", "unchanged z", "bool, 2")
}

// What each sort of expression costs, besides its parts.
func TestK6CostOfParts(t *testing.T) {
	rows := []struct {
		expr string // over W, which is big, in the place of one part
		more int    // than W
	}{
		{"W", 0}, {"(W)", 0}, {"-W", 1}, {"W + 1", 2}, {"{W}", 1}, {"{W, 1, 2}", 3}, {"<<W>>", 1}, {"[1: W]", 2}, {"[1: W, 2: 3]", 4}, {`["k": W]`, 2}, {`["k": W].k`, 4}, {`["k": W]["k"]`, 4},
		{`["k": W]["k" := 1]`, 5}, {"<<W>>[1]", 3}, {"size({W})", 2}, {"append(<<>>, W)", 2}, {"if true then W else nil", 3}, {"let q = W : q", 2}, {"let q = 1 : W", 2},
		{"all q in {W} : true", 3}, {"{each q in {} : W}", 2}, {"fun q in {W} : q", 3}, {"always (W = 1)", 3}, {"(W = 1) leadsto true", 4}, {"not (W = 1)", 3}, {"W = c", 2}, {"W = v", 2},
		{"W = v'", 2}, {"W = 1 and unchanged v", 4}, {"{W} = {1}", 4}, {"i(W)", 2},
	}
	const module = "module M " + base + "constant c = 1 variable v in {1} define i(p) == p define w == "
	for _, row := range rows {
		expr := strings.ReplaceAll(row.expr, "W", "w")
		own := 1 + row.more // the name of what is big costs 1 itself
		if got := toldExpr(module+costing(4000-own), expr); strings.HasPrefix(got, "Err") {
			t.Errorf("%s: got %s", row.expr, got)
		}
		are(t, module+costing(4001-own), expr, "ErrFull at 0")
	}
}

func TestK6WithinOneAnother(t *testing.T) {
	heads := []string{"all %s in A : ", "some %s in A : ", "size({each %s in A : ", "size({those %s in A : ", "nil = (choose %s in A : ", "nil = (fun %s in A : "}
	ends := []string{"", "", "}) = 1", "}) = 1", ")", ")"}
	nested := func(n int, from int) string {
		text := "true"
		for i := range n {
			h := (from + i) % len(heads)
			text = fmt.Sprintf(heads[h], fmt.Sprint("q", i)) + text + ends[h]
		}
		return text
	}
	const module = "module M atoms A = {x} define i(p) == p "
	for from := range heads {
		are(t, module, nested(3, from), "bool, 0", nested(4, from), "ErrFull at 0", nested(5, from), "ErrFull at 0", "i("+nested(3, from)+")", "bool, 0")
		sound(t, "atoms A = {x} invariant z == "+nested(3, from))
		broken(t, "ErrFull", "atoms A = {x} invariant ^z == "+nested(4, from))
		for n, want := range map[int]string{2: "bool, 0", 3: "ErrFull at 0"} {
			are(t, module+"define z == "+nested(n, from), "all u in A : z", want)
			are(t, module+"define z(p) == p and ("+nested(n, from)+")", "some u in A : z(true)", want)
			are(t, module+"action z == "+nested(n, from), "all u in A : z", want)
			are(t, module+"invariant z == "+nested(n, from), "all u in A : z", want)
			are(t, module+"constant z = "+nested(n, from), "all u in A : z", "bool, 0")
		}
		are(t, module+"action z == "+nested(3, from), "enabled z", "bool, 3")
		are(t, module+"define z(p) == p and ("+nested(3, from)+")", "z("+nested(3, from)+") and ("+nested(3, from)+")", "bool, 0", "z(all u in A : true)", "bool, 0")
	}
	are(t, module,
		"all q in {each q in {each q in {each q in {each q in A : q} : q} : q} : q} : true", "bool, 0",
		"let q = 1 : let s = 2 : let u = 3 : let v = 4 : all w in A : let y = 1 : some k in A : {each l in A : l} = A", "bool, 0",
		"all q in A : all s in {each u in {each u in A : u} : u} : true", "bool, 0",
		"all q in A : all s in {each u in {each w in A : w} : all y in A : true} : true", "bool, 0",
		"all q in A : all s in {each u in A : all y in A : true} : true", "bool, 0",
		"all q in A : all s in {each u in A : all y in A : all w in A : true} : true", "ErrFull at 0",
	)
}

func TestK6Time(t *testing.T) {
	always := func(n int) string { return strings.Repeat("always ", n) + "true" }
	sound(t, "property z == "+always(6), "property z == (true leadsto true) and (true leadsto true) and (true leadsto true)",
		"property z == eventually (true until (true leadsto always true)) and always true", "action a == true property z == (enabled a) and "+always(6))
	broken(t, "ErrFull", "property ^z == "+always(7), "property ^z == eventually "+always(6), "property ^z == (true until true) and "+always(6),
		"property ^z == (true leadsto true) and "+always(5), "property ^z == (true leadsto true) and (true leadsto true) and (true leadsto true) and always true",
		"property ^z == ((true until true) until (true until true)) until ((true until true) until eventually true)",
		"property ^z == "+always(3)+" or "+always(4))
	sound(t, "property z == "+always(6)+" property y == "+always(6))
	are(t, "module M", always(20), "bool, 3", "(true leadsto true) and "+always(6), "bool, 3")
}

func TestK7Exchanged(t *testing.T) {
	const ahead = "atoms A = {x, y} symmetric A atoms B = {u} "
	sound(t, ahead+"constant k = u", ahead+"constant k = A variable v in A init v in A", ahead+`constant k = ["x": "y"].x`, ahead+"constant k = all q in A : q in A",
		"atoms A = {x, y} constant k = choose q in {x} : q = y", "constant k = let x = 1 : x define d(y) == y constant l = d(2) "+ahead,
		"variable v in {1} "+ahead+"action a == {each q in {1} : q} = {}")
	broken(t, "ErrAtom",
		ahead+"constant k = ^x", ahead+"variable v in {nil, ^y}", ahead+"define d == ^x", ahead+"define d(p) == p = ^x", ahead+"init ^x = y", ahead+"action a == ^x in A",
		ahead+"invariant i == A = {^x}", ahead+"property p == always (^x in A)", "atoms A = {x} constant k = ^x symmetric A", "atoms A = {x} symmetric A constant k = ^x",
		"atoms A = {x} constant k = ^x atoms B = {y} constant l = y symmetric B symmetric A", "atoms A = {x} constant k = x atoms B = {y} constant l = ^y symmetric B",
		ahead+"constant k = ^choose q in {1} : true", ahead+"constant k = u constant l = <<^choose q in {u} : true, x>>", "constant k = ^choose q in {1} : true "+ahead,
		ahead+"constant k = ^choose q in {x} : q = y", ahead+"constant k = {^x, choose q in A : true}", ahead+"constant k = {^choose q in A : true, x}",
		ahead+"constant k = {^choose q in A : true, choose s in A : true}", ahead+"constant k = ^choose q in A : q = (choose s in A : true)",
		ahead+"define d(p) == {p, ^x} constant k = d(y)", ahead+"define d(p) == p constant k = d(^y)", ahead+"constant k = ^y constant l = x",
		ahead+"define d(p) == ^choose q in {p} : true constant k = {d(u), x}",
	)
	broken(t, "ErrName", ahead+"constant k = x constant l = ^zz")
	broken(t, "ErrKind", ahead+"constant k = x ^+ 1", ahead+"constant k = choose q in {1} : true invariant ^i == 1")
	broken(t, "ErrFull", "atoms A = {x} constant k = x symmetric A atoms B = {b1, b2, b3, b4, b5, b6, b7} symmetric ^B")
	are(t, "module M "+ahead, "x", "atom, 0", "choose q in A : q = y", "atom, 0", "{x, u}", "set of atom, 0")
}

// doubled has constants c0, c1, .., each of which has the one ahead of it twice.
func doubled(n int) string {
	var text strings.Builder
	text.WriteString("module M constant c0 = nil ")
	for i := range n {
		fmt.Fprintf(&text, `constant c%d=["a":c%d,"b":c%d]`, i+1, i, i)
	}
	return text.String()
}

// Kinds that are far too long to be written down are still compared.
func TestP1LongKinds(t *testing.T) {
	const n = 90
	begun := time.Now()
	same := doubled(n) + fmt.Sprintf(` constant k = c%d = c%d constant l = {c%d, c%d["a" := c%d]}`, n, n, n, n, n-1)
	if got := toldModule(same); got != "OK at 0" {
		t.Errorf("got %s", got)
	}
	other := strings.ReplaceAll(doubled(40), "c", "d")[len("module M donstant d0 = nil "):]
	other = strings.ReplaceAll(other, "donstant", "constant")
	both := doubled(40) + " constant d0 = 1 " + other + " constant k = {c40, d40} constant "
	if got := toldModule(both + "l = 1"); got != "OK at 0" {
		t.Errorf("got %s", got)
	}
	if got := toldModule(both + "l = {c40, d39}"); !strings.HasPrefix(got, "ErrKind") {
		t.Errorf("got %s", got)
	}
	if d := time.Since(begun); d > 10*time.Second {
		t.Errorf("it took %v", d)
	}
	kind, _, _, err := kinds.Expr(doubled(15), "c15")
	if want := len("rec(a: , b: )")*(1<<15-1) + len("none")<<15; err != nil || len(kind) != want {
		t.Errorf("got %d bytes, %v, want %d", len(kind), err, want)
	}
	are(t, doubled(60), "c60", "ErrFull at 0", "c60 = c60", "bool, 0", "c60.a.b.a.b", "ErrFull at 0", "c2", "rec(a: rec(a: none, b: none), b: rec(a: none, b: none)), 0")
}

// A definition is looked at again at each call; what that takes is bounded by its cost.
func TestP1ManyCalls(t *testing.T) {
	text := "module M define d0(p) == <<p, p, p>> "
	for i := range 7 {
		text += fmt.Sprintf("define d%d(p) == <<d%d(p), d%d(p)>> ", i+1, i, i)
	}
	text += "constant k = {d7(1)"
	for len(text) < 3980 {
		text += ", d7(1)"
	}
	begun := time.Now()
	if got := toldModule(text + "}"); !strings.HasPrefix(got, "ErrFull at ") {
		t.Errorf("got %s", got)
	}
	if d := time.Since(begun); d > 20*time.Second {
		t.Errorf("it took %v", d)
	}
}

// maker makes expressions over World at random, right and wrong ones.
type maker struct {
	*rand.Rand
	bound []string
}

func (m *maker) pick(of ...string) string {
	return of[m.Intn(len(of))]
}

func (m *maker) leaf() string {
	if len(m.bound) > 0 && m.Intn(2) == 0 {
		return m.pick(m.bound...)
	}
	return m.pick("1", "nil", "true", `"k"`, "x", "A", "c", "n", "b", "a", "f", "r", "n'", "b'", "unchanged n", "low", "d", "step", "Inv", "Go", "{}", "<<>>", "(enabled Go)", "zz")
}

// binder makes what binds a name, which is bound within it alone.
func (m *maker) binder(deep int) string {
	q := fmt.Sprint("q", len(m.bound))
	ahead := m.expr(deep - 1)
	m.bound = append(m.bound, q)
	behind := m.expr(deep - 1)
	m.bound = m.bound[:len(m.bound)-1]
	switch m.Intn(3) {
	case 0:
		return fmt.Sprintf("(let %s = %s : %s)", q, ahead, behind)
	case 1:
		return fmt.Sprintf("{%s %s in (%s) : %s}", m.pick("each", "those"), q, ahead, behind)
	}
	return fmt.Sprintf("(%s %s in (%s) : %s)", m.pick("all", "some", "choose", "fun"), q, ahead, behind)
}

func (m *maker) expr(deep int) string {
	if deep == 0 {
		return m.leaf()
	}
	switch m.Intn(10) {
	case 0:
		return m.leaf()
	case 1, 2:
		return m.binder(deep)
	case 3:
		return fmt.Sprintf("{%s, %s}", m.expr(deep-1), m.expr(deep-1))
	case 4:
		return fmt.Sprintf(m.pick(`["k": %s, "m": %s]`, "[%s: %s]", "<<%s, %s>>", "append(<<%s>>, %s)", "(%s)[%s]", "plus(%s, %s)", "seqs(%s, %s)"), m.expr(deep-1), m.expr(deep-1))
	case 5:
		return fmt.Sprintf(m.pick("id(%s)", "more(%s)", "size(%s)", "head(<<%s>>)", "values(%s)", "(%s).k", "(not (%s))", "(-(%s))", "(domain (%s))", "(powerset (%s))", "(always (%s))"), m.expr(deep-1))
	case 6:
		return fmt.Sprintf(m.pick("(%s)[%s := %s]", "(if %s then %s else %s)"), m.expr(deep-1), m.expr(deep-1), m.expr(deep-1))
	}
	return fmt.Sprintf("((%s) %s (%s))", m.expr(deep-1), m.pick("+", "=", "<", "and", "or", "in", "union", "subset", "->", "..", "++", "until"), m.expr(deep-1))
}

// fits tells whether an expression has no fault, and what it is.
func fits(module, expr string) (string, bool) {
	got := toldExpr(module, expr)
	return got, !strings.HasPrefix(got, "Err")
}

// The same said in another way has the same kind and level.
func TestSameOtherwise(t *testing.T) {
	m := &maker{Rand: rand.New(rand.NewSource(3))}
	right, wrong := 0, 0
	for range 20000 {
		expr := m.expr(1 + m.Intn(3))
		got, ok := fits(world, expr)
		again, at, err := form.Expr(expr)
		if err != nil {
			t.Fatalf("%s: %v at %d", expr, err, at)
		}
		other, alsoOK := fits(world, again)
		if ok != alsoOK || ok && got != other || !ok && strings.Fields(got)[0] != strings.Fields(other)[0] {
			t.Fatalf("%s: got %s, written once more %s", expr, got, other)
		}
		if !ok || strings.HasSuffix(got, "3") {
			wrong++
			continue
		}
		right++
		for _, same := range []string{"id(%s)", "let w = %s : w", "head(<<%s>>)", "if true then %s else nil", "if false then nil else %s", `["o": %s].o`} {
			are(t, world, fmt.Sprintf(same, expr), got)
		}
		are(t, world+"define w == "+expr, "w", got)
		are(t, world+"define w(q) == "+expr, "w(1)", got)
		are(t, world+"define w(q) == q = "+"("+expr+")", "w(nil)", "bool,"+got[strings.LastIndex(got, " "):])
	}
	if right < 1000 || wrong < 1000 {
		t.Errorf("only %d right, %d wrong", right, wrong)
	}
}

// A call is what its definition's expression is, with its parts bound to the names.
func TestCallsAsLet(t *testing.T) {
	m := &maker{Rand: rand.New(rand.NewSource(4))}
	both := 0
	for range 20000 {
		part := m.expr(m.Intn(3))
		m.bound = []string{"w"}
		body := m.expr(1 + m.Intn(3))
		m.bound = nil
		module := world + "define z(w) == " + body
		if _, err := kinds.Module(module); err != nil {
			continue
		}
		got, ok := fits(module, "z("+part+")")
		want, alsoOK := fits(world, "let w = "+part+" : "+body)
		if ok != alsoOK || ok && got != want {
			t.Fatalf("%s, of %s: got %s, as let %s", body, part, got, want)
		}
		if ok {
			both++
		}
	}
	if both < 1000 {
		t.Errorf("only %d", both)
	}
}

// No text makes it panic, and a place is one of the text.
func TestP1AnyText(t *testing.T) {
	r := rand.New(rand.NewSource(5))
	pieces := strings.Fields("module M constant atoms A = {x, y} symmetric A variable v in {1} define d (p) == p init true action a == v' fair weak a invariant i property P == " +
		"always eventually until leadsto ( ) { } [ ] << >> , : := . ' + - and or not let q = all some each those choose fun if then else nil size len head enabled unchanged \"k\" 1 2")
	for range 30000 {
		text := "module M "
		for range r.Intn(30) {
			text += pieces[r.Intn(len(pieces))] + " "
		}
		if at, err := kinds.Module(text); at < 0 || at > len(text) || err == nil && at != 0 {
			t.Fatalf("Module(%q): %d, %v", text, at, err)
		}
		if got := toldExpr(lamp, text[len("module M "):]); strings.Contains(got, "besides") {
			t.Fatalf("Expr(%q): %s", text, got)
		}
	}
	for _, text := range []string{"", " ", "#", "\x00", "module", "module M", "module M M", "\xff\xfe", strings.Repeat("module M ", 1000)} {
		toldModule(text)
		toldExpr(text, text)
		toldExpr(lamp, text)
	}
}
