package refine_test

import (
	"fmt"
	"math"
	"slices"
	"strings"
	"testing"

	"sextant/api"
	"sextant/model"
	"sextant/plain"
	"sextant/refine"
	"sextant/trace"
)

const lamp = `module Lamp
atoms Hands = {left, right}
symmetric Hands
variable on in {false, true}
variable by in Hands union {nil}
init not on and by = nil
action Press == not on and on' = true and by' in Hands
action Go == on and on' = false and by' = nil
fair weak Go
invariant Held == on implies by in Hands
invariant Dark == not on
property Goes == always (on implies eventually not on)
property Rests == eventually always not on
`

// light is the module B of the chapter's table.
const light = `module B variable lit in 0 .. 1 init lit = 0 action Turn == lit' = 1 - lit`

// bare has one state, and no variable.
const bare = `module Bare`

// pair has two variables, and names that are no variables'.
const pair = `module Pair
constant zero = 0
atoms A = {left, other}
variable x in 0 .. 2
variable y in A union {nil}
define twice == x * 2
init x = 0
action Any == true
invariant Small == x < 3
`

// shapes has values of several kinds; those of f, ascending, are [0: 1], [0: 2] and <<3>>.
const shapes = `module Shapes
variable s in powerset {1, 2}
variable f in {<<3>>, [0: 1], [0: 2]}
variable w in {"on", "x"}
`

func made(t *testing.T, text string) *model.Model {
	t.Helper()
	m, at, err := model.New(text)
	if err != nil {
		t.Fatalf("New(%q): %v at %d", text, err, at)
	}
	return m
}

// mapped is what Map answers, in one text: the states, or the fault.
func mapped(t *testing.T, a, b, text string) string {
	t.Helper()
	list, at, err := refine.Map(made(t, a), made(t, b), text)
	if err != nil {
		return fault(at, err, len(list) > 0)
	}
	if at != 0 {
		return fmt.Sprint("no fault, but at ", at)
	}
	return strings.Trim(fmt.Sprint(list), "[]")
}

func fault(at int, err error, besides bool) string {
	if besides {
		return fmt.Sprintf("something besides %v at %d", err, at)
	}
	return fmt.Sprintf("%v at %d", plain.Told(err), at)
}

// checked is what Check answers, in one text: that it holds, the way on which it does not, or the fault.
func checked(t *testing.T, a, b, text string) string {
	t.Helper()
	got, at, err := refine.Check(made(t, a), made(t, b), text)
	switch {
	case err != nil:
		return fault(at, err, got.Holds || len(got.Trace) > 0 || got.Loop != 0)
	case at != 0 || got.Loop != -1 || got.Holds != (len(got.Trace) == 0):
		return fmt.Sprintf("%+v at %d", got, at)
	case got.Holds:
		return "holds"
	}
	return strings.Trim(fmt.Sprint(got.Trace), "[]")
}

// look holds what Map answers against what it should, text by text.
func look(t *testing.T, a, b string, pairs ...string) {
	t.Helper()
	for i := 0; i < len(pairs); i += 2 {
		if got := mapped(t, a, b, pairs[i]); got != pairs[i+1] {
			t.Errorf("Map(%q): got %s, want %s", pairs[i], got, pairs[i+1])
		}
	}
}

// judge holds what Check answers against what it should, text by text.
func judge(t *testing.T, a, b string, pairs ...string) {
	t.Helper()
	for i := 0; i < len(pairs); i += 2 {
		if got := checked(t, a, b, pairs[i]); got != pairs[i+1] {
			t.Errorf("%s\n%s\nCheck(%q): got %s, want %s", a, b, pairs[i], got, pairs[i+1])
		}
	}
}

// faulty looks for a fault that both Map and Check tell.
func faulty(t *testing.T, a, b string, pairs ...string) {
	t.Helper()
	look(t, a, b, pairs...)
	judge(t, a, b, pairs...)
}

func TestR1Table(t *testing.T) {
	look(t, lamp, light,
		"lit = if on then 1 else 0", "0 0 0 1 1 1",
		"lit = 2", "-1 -1 -1 -1 -1 -1",
	)
}

func TestR1EachStateOfA(t *testing.T) {
	look(t, lamp, light,
		"lit = size({by, nil}) - 1", "0 1 1 0 1 1",
		"lit = if by = left then 0 else if on then 1 else nil", "-1 0 -1 1 0 1", // in the module a symmetric set's atom could not be named
		"lit = on", "-1 -1 -1 -1 -1 -1", // no value of lit, but no fault
		"lit = {0}", "-1 -1 -1 -1 -1 -1",
		"lit = -0", "0 0 0 0 0 0",
		"lit = Held", "-1 -1 -1 -1 -1 -1",
		"lit = if Held then 1 else 0", "1 1 1 0 1 1",
	)
	look(t, light, lamp, "on = lit = 1, by = nil", "0 3", "by = nil, on = lit = 1", "0 3")
	look(t, lamp, lamp, "on = on, by = by", "0 1 2 3 4 5", "by = by, on = not on", "3 4 5 0 1 2")
	look(t, bare, light, "lit = 1", "1")
}

// The first variable of b counts most, whichever of them the text says first.
func TestR1SeveralVariables(t *testing.T) {
	look(t, light, pair,
		"x = lit, y = nil", "0 3",
		"y = nil, x = lit", "0 3",
		"y = nil, x = 2 - lit", "6 3",
		"x = lit + 2, y = nil", "6 -1",
		"x = lit - 1, y = nil", "-1 0",
		"x = lit, y = if lit = 1 then 0 else nil", "0 -1",
		"x = 1, y = lit", "-1 -1",
	)
	look(t, lamp, pair, "y = by, x = if on then 1 else 0", "0 1 -1 3 4 -1") // an atom is its name: pair has left, but no right
	look(t, light, shapes,
		"s = {}, f = [0: 1], w = \"on\"", "0 0",
		"s = {lit}, f = [lit: lit + 1, 0: 1 - lit], w = \"x\"", "-1 -1",
		"s = {lit + 1}, f = [0: lit + 1], w = \"x\"", "7 15",
		"w = if lit = 0 then \"x\" else \"y\", f = <<lit + 3>>, s = {1, 2}", "23 -1",
		"w = \"on\", f = [lit: 3], s = {2} union {lit}", "-1 22",
		"w = \"on\", f = <<3>>, s = powerset {}", "-1 -1",
	)
}

func TestR1NothingAtAll(t *testing.T) {
	look(t, lamp, bare, "", "0 0 0 0 0 0", " \t\n", "0 0 0 0 0 0", "# x = 1", "0 0 0 0 0 0")
	look(t, bare, bare, "", "0")
	faulty(t, lamp, bare, "x = 1", "ErrName at 0", "on = on", "ErrName at 0", ",", "ErrSyntax at 0")
	faulty(t, bare, light, "", "ErrName at 0", "  ", "ErrName at 2", "#", "ErrName at 1")
}

func TestR1BetweenTokens(t *testing.T) {
	look(t, lamp, pair,
		"\n x# the first\n=\t1 ,y=nil # the second", "3 3 3 3 3 3",
		"x=0,y=nil", "0 0 0 0 0 0",
	)
	// Commas within brackets are the expression's.
	look(t, light, shapes, "s = {2, 1}, f = [0: 2, 0: 1], w = [\"s\": \"x\", \"w\": 2].s", "21 21")
}

func TestR1TooLong(t *testing.T) {
	text := "lit = 1"
	fill := func(size int) string { return text + strings.Repeat(" ", size-len(text)) }
	look(t, lamp, light, fill(api.MaxExpr), "1 1 1 1 1 1")
	faulty(t, lamp, light, fill(api.MaxExpr+1), "ErrFull at 0", strings.Repeat("=", api.MaxExpr+1), "ErrFull at 0")
	text = "on = lit = 1"
	faulty(t, light, lamp, fill(api.MaxExpr), "ErrName at 1000") // of by nothing is said
}

func TestR1Form(t *testing.T) {
	faulty(t, lamp, light,
		"lit", "ErrSyntax at 3",
		"lit ", "ErrSyntax at 4",
		"lit =", "ErrSyntax at 5",
		"lit = 1,", "ErrSyntax at 8",
		"lit = 1, ", "ErrSyntax at 9",
		", lit = 1", "ErrSyntax at 0",
		"lit = 1,, lit = 1", "ErrSyntax at 8",
		"lit == 1", "ErrSyntax at 4",
		"lit := 1", "ErrSyntax at 4",
		"lit in 1", "ErrSyntax at 4",
		"lit' = 1", "ErrSyntax at 3",
		"(lit) = 1", "ErrSyntax at 0",
		"(lit = 1)", "ErrSyntax at 0",
		"1 = lit", "ErrSyntax at 0",
		"in = 1", "ErrSyntax at 0",
		"lit = 1 lit = 2", "ErrSyntax at 8",
		"lit = 1; on = 2", "ErrSyntax at 7",
		"lit = 1\x00", "ErrSyntax at 7",
		"\xff", "ErrSyntax at 0",
		"lit = 1 = 2 = 3", "ErrSyntax at 12",
		"lit = 01", "ErrSyntax at 6",
		"lit = (1, lit = 2)", "ErrSyntax at 8",
		"lit = \"a", "ErrSyntax at 6",
		"lit = 9223372036854775808", "ErrRange at 6",
		"lit = 1, abcdefghijklmnopq = 2", "ErrRange at 9",
		"abcdefghijklmnopq", "ErrRange at 0",
		"abcdefghijklmnop = 1", "ErrName at 0",
	)
}

// Each expression has all levels for itself.
func TestR1Levels(t *testing.T) {
	nested := func(n int) string { return strings.Repeat("(", n) + "0" + strings.Repeat(")", n) }
	most, more := nested(api.MaxNest), nested(api.MaxNest+1)
	look(t, light, pair, "x = "+most+", y = {"+nested(api.MaxNest-1)+"}", "-1 -1")
	faulty(t, light, pair,
		"x = "+more+", y = nil", "ErrFull at 28",
		"x = "+most+", y = "+more, "ErrFull at 83",
		"z = "+more, "ErrFull at 28",
	)
}

// What is none of the form is told ahead of what is wrong with names and expressions.
func TestR1FormFirst(t *testing.T) {
	faulty(t, lamp, light,
		"foo = bar, lit =", "ErrSyntax at 16",
		"lit = 1 + on, lit", "ErrSyntax at 17",
		"lit = on', lit = 1 9", "ErrSyntax at 19",
	)
}

func TestR1Names(t *testing.T) {
	faulty(t, lamp, light,
		"foo = 1", "ErrName at 0",
		"on = on", "ErrName at 0", // it is a's, not b's
		"Turn = true", "ErrName at 0",
		"B = 1", "ErrName at 0",
		"Lit = 1", "ErrName at 0",
		"lit = 1, foo = 1", "ErrName at 9",
		"lit = on, lit = 1", "ErrName at 10",
		" lit = 0 , lit = 0", "ErrName at 11",
		"lit = lit", "ErrName at 6", // it is b's, not a's
		"lit = Turn", "ErrName at 6",
		"lit = Goes", "ErrName at 6",
		"lit = 1 + foo(2)", "ErrName at 10",
	)
	faulty(t, lamp, pair,
		"zero = 0", "ErrName at 0",
		"A = {}", "ErrName at 0",
		"left = left", "ErrName at 0",
		"twice = 0", "ErrName at 0",
		"Small = true", "ErrName at 0",
	)
}

func TestR1OneByOne(t *testing.T) {
	faulty(t, lamp, pair,
		"foo = bar", "ErrName at 0",
		"foo = 1 + on, x = on'", "ErrName at 0",
		"x = bar, foo = 1", "ErrName at 4",
		"x = 1 + on, foo = 1", "ErrKind at 6",
		"x = on', foo = 1", "ErrLevel at 0",
		"x = 1, x = 1 + on", "ErrName at 7",
		"x = 1, y = 1 + on", "ErrKind at 13",
		"x = 1, y = on'", "ErrLevel at 7",
		"x = on', y = 1 + on", "ErrLevel at 0",
		"x = 1 + on", "ErrKind at 6", // ahead of that nothing is said of y
		"x = on'", "ErrLevel at 0",
	)
}

func TestR1Expressions(t *testing.T) {
	faulty(t, lamp, light,
		"lit = 1 + on", "ErrKind at 8",
		"lit = {1, on}", "ErrKind at 6",
		"lit = if 1 then 0 else 1", "ErrKind at 6",
		"lit = let on = 1 : on", "ErrName at 6",
		"lit = {each by in {} : 1}", "ErrName at 6",
		"lit = {always on}", "ErrLevel at 6",
		"lit = 1 + (if always on then 1 else 0)", "ErrLevel at 11",
		"lit = size(1, 2)", "ErrKind at 6",
	)
	look(t, lamp, light, "lit = let lit = 1 : lit", "1 1 1 1 1 1") // b's names stand for nothing over a
}

func TestR1Level(t *testing.T) {
	faulty(t, lamp, light,
		"lit = on'", "ErrLevel at 0",
		"  lit = unchanged on", "ErrLevel at 2",
		"lit = if by' = nil then 0 else 1", "ErrLevel at 0",
		"lit = Press", "ErrLevel at 0",
		"lit = enabled Press", "ErrLevel at 0",
		"lit = always on", "ErrLevel at 0",
		"lit = on leadsto on", "ErrLevel at 0",
	)
	faulty(t, lamp, pair, "y = nil, x = on'", "ErrLevel at 9")
}

// costly has a definition of which one may be named, but not two; and one that speaks of a step, besides.
func costly() string {
	text := "module Costly\nvariable v in {false, true}\ndefine d0 == v or v\ndefine s0 == v or v'\n"
	for i := range 9 { // each costs twice as much as the one ahead, and 3 more
		text += fmt.Sprintf("define d%d == d%d or d%d\ndefine s%d == s%d or s%d\n", i+1, i, i, i+1, i, i)
	}
	return text
}

func TestR1TooCostly(t *testing.T) {
	all := func(n int) string {
		text := "true"
		for i := range n {
			text = fmt.Sprintf("all q%d in {} : %s", i, text)
		}
		return text
	}
	look(t, costly(), pair, "x = if d9 then 1 else 2, y = nil", "6 3", "x = if "+all(api.MaxBind)+" then 1 else 2, y = nil", "3 3")
	faulty(t, costly(), pair,
		"x = d9 or d9", "ErrFull at 0",
		"x = 0, y = d9 or d9", "ErrFull at 0",
		"x = 0, y = "+all(api.MaxBind+1), "ErrFull at 0",
		"x = 0, y = s9 or s9", "ErrFull at 0", // ahead of its level
		"x = 0, y = s9", "ErrLevel at 7",
		"x = 0, foo = d9 or d9", "ErrName at 7",
		"x = 0, y = (d9 or d9) or 1", "ErrKind at 22",
	)
}

func TestR1Missing(t *testing.T) {
	faulty(t, lamp, pair,
		"", "ErrName at 0",
		"x = 1", "ErrName at 5",
		"y = nil", "ErrName at 7",
		"y = nil  # x = 1\n", "ErrName at 17",
	)
}

func TestR2Table(t *testing.T) {
	judge(t, lamp, light,
		"lit = if on then 1 else 0", "holds",
		"lit = 1", "0",
		"", "ErrName at 0",
		"lit = on, lit = 1", "ErrName at 10",
	)
}

// listed is a module over 0 .. size - 1 that has just these steps, each written as its two ends, one digit each.
func listed(size int, initial, steps string) string {
	text := fmt.Sprintf("module Listed\nvariable n in 0 .. %d\ninit n in {%s}\naction Go == false", size-1, strings.Join(strings.Split(initial, ""), ", "))
	for _, s := range strings.Fields(steps) {
		text += fmt.Sprintf(" or n = %c and n' = %c", s[0], s[1])
	}
	return text + "\n"
}

func TestR2Initial(t *testing.T) {
	b := listed(3, "12", "10 12 21 20")
	judge(t, listed(3, "12", "12"), b, "n = n", "holds")
	judge(t, listed(3, "2", "21"), b, "n = n", "holds") // b may begin elsewhere, too
	judge(t, listed(3, "012", "12"), b, "n = n", "0", "n = n + 1", "2", "n = 2 - n", "2", "n = 3 - n", "0", "n = n * n", "0", "n = 1 + n % 2", "holds")
	judge(t, listed(3, "1", "12 20"), listed(3, "", "10 12 21 20"), "n = n", "1") // it may begin nowhere
	judge(t, listed(3, "", "01 12"), b, "n = n", "holds", "n = 7", "holds")       // it begins nowhere
	// A way of one state is shorter than one of two, and the first of them is told.
	judge(t, listed(3, "012", "10 12"), listed(3, "1", ""), "n = n", "0", "n = if n = 2 then 0 else 1", "2", "n = if n = 0 then 1 else 0", "1")
}

func TestR2Steps(t *testing.T) {
	a := listed(4, "0", "01 02 13 23 30")
	judge(t, a, listed(4, "0", "01 02 13 23 30"), "n = n", "holds")
	judge(t, a, listed(4, "0", "01 02 13 30"), "n = n", "0 2 3")
	judge(t, a, listed(4, "0", "01 02 23 30"), "n = n", "0 1 3")
	judge(t, a, listed(4, "0", "01 02 30"), "n = n", "0 1 3") // of both the first
	judge(t, a, listed(4, "0", "01 13 23 30"), "n = n", "0 2")
	judge(t, a, listed(4, "0", "13 23 30"), "n = n", "0 1")
	judge(t, a, listed(4, "0", "01 02 13 23"), "n = n", "0 1 3 0") // back to where it was
	judge(t, a, listed(4, "0", "10 20 31 32 03"), "n = n", "0 1")  // the other way round
	judge(t, a, listed(4, "0123", ""), "n = 2", "holds")
}

// The way is the first by the first numbers that differ, not the one that ends first.
func TestR2FirstOfSeveral(t *testing.T) {
	b := listed(6, "01", "02 13 03 12")
	judge(t, listed(6, "01", "03 12 35 24"), b, "n = n", "0 3 5")
	judge(t, listed(6, "01", "02 13 25 34"), b, "n = n", "0 2 5")
	judge(t, listed(6, "01", "02 03 34 25 24"), b, "n = n", "0 2 4")
	judge(t, listed(6, "01", "02 23 35 13 34"), b, "n = n", "0 2 3")
	judge(t, listed(6, "01", "02 13 34 33"), b, "n = n", "1 3 4")
	judge(t, listed(6, "01", "02 13 20 34"), b, "n = n", "0 2 0")
}

// What it stands for may stay the same, whether b has such a step or not.
func TestR2Stays(t *testing.T) {
	b := listed(2, "0", "01")
	judge(t, listed(4, "01", "01 10 02 13 23 32 22"), b, "n = n / 2", "holds")
	judge(t, listed(4, "0", "01 13 32 21"), b, "n = n / 2", "0 1 3 2 1")
	judge(t, listed(4, "0", "00 11"), listed(1, "0", ""), "n = 0", "holds")
	judge(t, listed(1, "0", "00"), bare, "", "holds")
	judge(t, lamp, bare, "", "holds")
	judge(t, lamp, "module M init false", "", "0")
}

// Only what can be reached counts.
func TestR2Reached(t *testing.T) {
	b := listed(3, "0", "01")
	judge(t, listed(4, "0", "01 23 32 20 31"), b, "n = n % 3", "holds")
	judge(t, listed(4, "0", "01 23 32 20 31"), b, "n = if n < 2 then n else 9", "holds")
	judge(t, listed(4, "0", "01 12 23 32 20 31"), b, "n = n % 3", "0 1 2")
}

func TestR2StandsForNone(t *testing.T) {
	b := listed(3, "0", "00 01 10 11 12 20 02 21 22")
	judge(t, listed(4, "0", "01 12 20"), b, "n = n", "holds")
	judge(t, listed(4, "0", "01 13 30"), b, "n = n", "0 1 3")
	judge(t, listed(4, "0", "01 13 30"), b, "n = if n < 1 then 0 else nil", "0 1")
	judge(t, listed(4, "0", "01"), b, "n = 3", "0")
	judge(t, listed(4, "13", "01"), b, "n = if n = 3 then 5 else 0", "3")
	judge(t, listed(4, "3", "33"), b, "n = n", "3") // both ends stand for none
}

// A step of a may be one of b by any of its actions, and need have nothing to do with their names.
func TestR2AnyAction(t *testing.T) {
	b := "module M variable n in 0 .. 3 init n = 0 action Up == n' = n + 1 action Down == n > 0 and n' = n - 1 action No == false"
	judge(t, listed(4, "0", "01 12 21 10"), b, "n = n", "holds")
	judge(t, listed(4, "0", "01 12 20"), b, "n = n", "0 1 2 0")
	judge(t, "module M variable x in {false, true} init not x action No == x' = (not x)", b, "n = if x then 1 else 0", "holds")
}

// From one state of b more steps are asked for than are looked at one by one.
func TestR2ManySteps(t *testing.T) {
	a := "module M variable n in 0 .. 99 init n = 0 action Any == true"
	for _, c := range []struct{ from, to int }{{0, 1}, {0, 40}, {0, 99}, {20, 0}, {20, 14}, {20, 15}, {20, 16}, {20, 17}, {20, 18}, {99, 98}} {
		b := fmt.Sprintf("module M variable n in 0 .. 99 action Most == n /= %d or n' /= %d", c.from, c.to)
		want := fmt.Sprint("0 ", c.from, " ", c.to)
		if c.from == 0 {
			want = fmt.Sprint("0 ", c.to)
		}
		judge(t, a, b, "n = n", want)
		judge(t, a, b, fmt.Sprintf("n = if n = %d then %d else n", c.to, c.from), "holds")
	}
	// Time and again the same ones are asked for.
	judge(t, a, "module M variable n in 0 .. 1 init n = 0 action Turn == n' = 1 - n", "n = n % 2", "holds")
}

// What is not so is shown by a way of a.
func TestR2Way(t *testing.T) {
	m := made(t, lamp)
	got, _, err := refine.Check(m, made(t, "module M variable v in 0 .. 2 init v = 0 action Up == v' = v + 1"), "v = if by = nil then 0 else if by = left then 1 else 2")
	if err != nil || got.Holds || got.Loop != -1 || !slices.Equal(got.Trace, []int{0, 5}) || !trace.Real(m, got.Trace) {
		t.Errorf("got %+v, %v", got, err)
	}
}

func TestR3(t *testing.T) {
	a, b := made(t, lamp), made(t, light+" invariant Two == lit in {0, 1} invariant Zero == lit = 0")
	text := "lit = if on then 1 else 0"
	if got, _, err := refine.Check(a, b, text); err != nil || !got.Holds {
		t.Fatal(got, err)
	}
	stands, _, _ := refine.Map(a, b, text)
	way := refine.Compose(trace.Walk(a, 1, 20), stands)
	if len(way) != 20 || !trace.Real(b, way) {
		t.Errorf("%v is no way", way)
	}
	for _, s := range trace.Walk(a, 1, 20) {
		if got, _, err := b.Eval("Two", stands[s], stands[s]); got != "true" || err != nil {
			t.Errorf("%d: %s, %v", s, got, err)
		}
	}
}

func TestR4Compose(t *testing.T) {
	for _, c := range []struct{ f, g, want []int }{
		{[]int{1, 0, 5, -1}, []int{7, 8}, []int{8, 7, -1, -1}},
		{nil, nil, nil},
		{nil, []int{1, 2}, nil},
		{[]int{}, []int{1, 2}, nil},
		{[]int{0, 1}, nil, []int{-1, -1}},
		{[]int{0, 1, 2, 3}, []int{4, 5, 6}, []int{4, 5, 6, -1}},
		{[]int{2, 2, 0, 2}, []int{-1, 9, 0}, []int{0, 0, -1, 0}},
		{[]int{math.MinInt, math.MaxInt, -2, 1}, []int{3, math.MinInt}, []int{-1, -1, -1, math.MinInt}}, // what g has, whatever it is
		{[]int{0, 1}, []int{-7, math.MaxInt}, []int{-7, math.MaxInt}},
	} {
		f, g := slices.Clone(c.f), slices.Clone(c.g)
		if got := refine.Compose(c.f, c.g); !slices.Equal(got, c.want) {
			t.Errorf("Compose(%v, %v): got %v, want %v", c.f, c.g, got, c.want)
		}
		if !slices.Equal(f, c.f) || !slices.Equal(g, c.g) {
			t.Errorf("Compose(%v, %v) wrote into what it was handed", f, g)
		}
	}
}

// What comes out is fresh memory, all of it.
func TestP2Fresh(t *testing.T) {
	f, g := []int{0, 1}, []int{0, 1}
	list := refine.Compose(f, g)
	list[0], list[1] = 5, 5
	_ = append(list[:1], 6)
	if !slices.Equal(f, []int{0, 1}) || !slices.Equal(g, []int{0, 1}) {
		t.Error("Compose shares memory")
	}
	a, b := made(t, listed(3, "0", "01 12")), made(t, listed(3, "0", "01"))
	for range 2 {
		list, _, _ = refine.Map(a, b, "n = n")
		got, _, _ := refine.Check(a, b, "n = n")
		if !slices.Equal(list, []int{0, 1, 2}) || !slices.Equal(got.Trace, []int{0, 1, 2}) {
			t.Fatal(list, got)
		}
		clear(list)
		clear(got.Trace)
	}
}
