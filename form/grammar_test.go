package form_test

import (
	"fmt"
	"math/rand"
	"slices"
	"strings"
	"testing"

	"sextant/api"
	"sextant/form"
	"sextant/tree"
)

// The grammar as F2, F3 and F6 say it, row by row. What is no left side stands for itself.
const rules = `
whole = module name declarations
declarations =
declarations = declarations declaration
declaration = constant name = expr
declaration = atoms name = { names }
declaration = symmetric name
declaration = variable name in expr
declaration = define name == expr
declaration = define name ( names ) == expr
declaration = init expr
declaration = action name == expr
declaration = fair weak name
declaration = fair strong name
declaration = invariant name == expr
declaration = property name == expr
names = name
names = names , name
exprs = expr
exprs = exprs , expr
pairs = expr : expr
pairs = pairs , expr : expr
expr = if expr then expr else expr
expr = let name = expr : expr
expr = binder name in P8 : expr
expr = P1
binder = all
binder = some
binder = choose
binder = fun
P1 = P2 leadsto P2
P1 = P2 until P2
P1 = P2
P2 = P2 iff P3
P2 = P3
P3 = P4 implies P3
P3 = P4
P4 = P4 or P5
P4 = P5
P5 = P5 and P6
P5 = P6
P6 = not P6
P6 = always P6
P6 = eventually P6
P6 = enabled name
P6 = P7
P7 = P8 row7 P8
P7 = P8
row7 = =
row7 = /=
row7 = <
row7 = <=
row7 = >
row7 = >=
row7 = in
row7 = subset
P8 = P9 -> P9
P8 = P9
P9 = P10 .. P10
P9 = P10
P10 = P10 row10 P11
P10 = P11
row10 = +
row10 = -
row10 = union
row10 = minus
row10 = ++
P11 = P11 row11 P12
P11 = P12
row11 = *
row11 = /
row11 = %
row11 = inter
P12 = - P12
P12 = domain P12
P12 = powerset P12
P12 = flatten P12
P12 = unchanged name
P12 = P13
P13 = P13 [ expr ]
P13 = P13 [ expr := expr ]
P13 = P13 . name
P13 = first
first = number
first = text
first = nil
first = true
first = false
first = name
first = name '
first = name ( exprs )
first = word ( exprs )
first = ( expr )
first = { }
first = { exprs }
first = << >>
first = << exprs >>
first = { each name in P8 : expr }
first = { those name in P8 : expr }
first = [ pairs ]
word = size
word = len
word = head
word = tail
word = append
word = values
word = seqs
`

// grammar has, for each left side, its right sides.
type grammar map[string][][]string

func readGrammar() grammar {
	g := grammar{}
	for _, line := range strings.Split(strings.TrimSpace(rules), "\n") {
		left, right, _ := strings.Cut(line, " =")
		g[left] = append(g[left], strings.Fields(right))
	}
	return g
}

// token is a piece of text, and what it is called in the grammar.
type token struct {
	piece, name string
}

// item is a right side, gone through so far, since a place.
type item struct {
	left       string
	rule, dot  int
	sinceToken int
}

// firstWrong tells which of the tokens is the first that cannot stand where it does, by looking at all ways to read them at once; how many they are, if they end too early; -1, if they are what is asked for.
func (g grammar) firstWrong(start string, tokens []token) int {
	sets := [][]item{g.closed([]item{{"", -1, 0, 0}}, nil, 0, start)}
	for i, t := range tokens {
		var next []item
		for _, it := range sets[i] {
			if s := g.behindDot(it, start); s == t.name {
				it.dot++
				next = append(next, it)
			}
		}
		if len(next) == 0 {
			return i
		}
		sets = append(sets, g.closed(next, sets, i+1, start))
	}
	if slices.Contains(sets[len(tokens)], item{"", -1, 1, 0}) {
		return -1
	}
	return len(tokens)
}

func (g grammar) right(it item, start string) []string {
	if it.rule < 0 {
		return []string{start}
	}
	return g[it.left][it.rule]
}

func (g grammar) behindDot(it item, start string) string {
	if r := g.right(it, start); it.dot < len(r) {
		return r[it.dot]
	}
	return ""
}

func (g grammar) closed(work []item, sets [][]item, here int, start string) []item {
	seen := map[item]bool{}
	var out []item
	add := func(it item) {
		if !seen[it] {
			seen[it] = true
			out = append(out, it)
		}
	}
	for _, it := range work {
		add(it)
	}
	for i := 0; i < len(out); i++ {
		it := out[i]
		s := g.behindDot(it, start)
		if s == "" {
			from := out
			if it.sinceToken < here {
				from = sets[it.sinceToken]
			}
			for _, other := range from {
				if g.behindDot(other, start) == it.left {
					other.dot++
					add(other)
				}
			}
			continue
		}
		for rule, right := range g[s] {
			add(item{s, rule, 0, here})
			if len(right) == 0 {
				it.dot++
				add(it)
			}
		}
	}
	return out
}

// derive makes tokens by rules that chance chooses, while steps are left; then by the shorter ones.
func (g grammar) derive(random *rand.Rand, symbol string, left *int) []token {
	switch symbol {
	case "name":
		return []token{{[]string{"a", "b", "x", "f", "A_1", "abcdefghijklmnop"}[random.Intn(6)], symbol}}
	case "number":
		return []token{{[]string{"0", "1", "10", "9223372036854775807"}[random.Intn(4)], symbol}}
	case "text":
		return []token{{[]string{`""`, `"a"`, `"in"`, `"a b"`, `"#"`}[random.Intn(5)], symbol}}
	}
	rules, ok := g[symbol]
	if !ok {
		return []token{{symbol, symbol}}
	}
	*left--
	right := rules[random.Intn(len(rules))]
	if *left <= 0 {
		right = shortest(symbol, rules)
	} else if strings.HasPrefix(symbol, "P") && random.Intn(3) > 0 {
		right = rules[len(rules)-1]
	}
	var out []token
	for _, s := range right {
		out = append(out, g.derive(random, s, left)...)
	}
	return out
}

// shortest is a rule that leads to an end.
func shortest(symbol string, rules [][]string) []string {
	switch symbol {
	case "expr", "P1", "P2", "P3", "P4", "P5", "P6", "P7", "P8", "P9", "P10", "P11", "P12", "P13":
		return rules[len(rules)-1]
	}
	return rules[0]
}

// lay writes tokens with something or, where it may be, nothing between them, and tells where each begins, and the text's length.
func lay(random *rand.Rand, tokens []token) (string, []int) {
	var b strings.Builder
	var places []int
	for i, t := range tokens {
		gap := []string{" ", "\n", "\t ", "#(\"\n", ""}[random.Intn(5)]
		if gap == "" && i > 0 && !apart(tokens[i-1].piece, t.piece) {
			gap = " "
		}
		b.WriteString(gap)
		places = append(places, b.Len())
		b.WriteString(t.piece)
	}
	return b.String(), append(places, b.Len())
}

// apart tells whether two tokens may stand side by side and still be two.
func apart(a, b string) bool {
	part := func(c byte) bool {
		return c == '_' || c >= '0' && c <= '9' || c >= 'a' && c <= 'z' || c >= 'A' && c <= 'Z'
	}
	if part(a[len(a)-1]) && part(b[0]) {
		return false
	}
	return !strings.Contains(" == := /= <= >= << >> .. -> ++ ", " "+a+b[:1]+" ")
}

// spoil changes some of the tokens.
func spoil(random *rand.Rand, tokens, others []token) []token {
	out := slices.Clone(tokens)
	for range 1 + random.Intn(2) {
		i := random.Intn(len(out) + 1)
		other := others[random.Intn(len(others))]
		switch random.Intn(4) {
		case 0:
			out = slices.Insert(out, i, other)
		case 1:
			if i < len(out) {
				out[i] = other
			}
		case 2:
			if i < len(out) {
				out = slices.Delete(out, i, i+1)
			}
		case 3:
			out = out[:i]
		}
	}
	return out
}

// every token there is, with what it is called.
func everyToken(g grammar) []token {
	all := []token{{"a", "name"}, {"f", "name"}, {"1", "number"}, {`"a"`, "text"}, {"weak", "weak"}}
	seen := map[string]bool{}
	for _, rights := range g {
		for _, r := range rights {
			for _, s := range r {
				if g[s] == nil && !seen[s] && s != "name" && s != "number" && s != "text" {
					seen[s] = true
					all = append(all, token{s, s})
				}
			}
		}
	}
	slices.SortFunc(all, func(a, b token) int { return strings.Compare(a.piece, b.piece) })
	return all
}

// Whatever is right by the grammar is read, and what is wrong is so where the grammar says.
func TestF4FirstFaultByTheGrammar(t *testing.T) {
	g := readGrammar()
	random := rand.New(rand.NewSource(1))
	others := everyToken(g)
	wrong := 0
	for i := range 2000 {
		start, call := "expr", form.Expr
		if i%4 == 0 {
			start, call = "whole", form.Module
		}
		steps := 5 + random.Intn(120)
		tokens := g.derive(random, start, &steps)
		if i%3 > 0 {
			tokens = spoil(random, tokens, others)
		}
		text, places := lay(random, tokens)
		if len(tokens) > 120 || len(text) > api.MaxExpr {
			continue
		}
		at := g.firstWrong(start, tokens)
		_, got, err := call(text)
		switch {
		case at < 0 && err != nil && err != api.ErrFull:
			t.Fatalf("%q: %v at %d, and it is right", text, err, got)
		case at >= 0 && err != api.ErrFull && (err != api.ErrSyntax || got != places[at]):
			t.Fatalf("%q: %v at %d, want ErrSyntax at %d", text, err, got, places[at])
		}
		if at >= 0 {
			wrong++
		}
	}
	if wrong < 700 {
		t.Errorf("only %d were wrong", wrong)
	}
}

// bare writes a tree with all there is of it but places.
func bare(e *tree.Expr) string {
	var parts []string
	for _, p := range e.Parts {
		parts = append(parts, bare(p))
	}
	return fmt.Sprintf("(%d %s %q %d %s)", e.Sort, e.Op, e.Name, e.Int, strings.Join(parts, " "))
}

// What is written once more is the same expression, in the same text if it is written again; and no bracket can go.
func TestF5SameWithFewestBrackets(t *testing.T) {
	g := readGrammar()
	random := rand.New(rand.NewSource(2))
	brackets := 0
	for range 2000 {
		steps := 5 + random.Intn(150)
		tokens := g.derive(random, "expr", &steps)
		text, _ := lay(random, tokens)
		if len(tokens) > 150 || len(text) > 600 {
			continue
		}
		out, _, err := form.Expr(text)
		if err == api.ErrFull || len(out) > api.MaxExpr {
			continue
		}
		before, _, err1 := form.ReadExpr(text)
		after, _, err2 := form.ReadExpr(out)
		if err != nil || err1 != nil || err2 != nil || bare(before) != bare(after) {
			t.Fatalf("%q is written once more as %q: another", text, out)
		}
		if again, _, _ := form.Expr(out); again != out {
			t.Fatalf("%q is written once more as %q", out, again)
		}
		for _, less := range withoutBrackets(out) {
			brackets++
			if e, _, err := form.ReadExpr(less); err == nil && bare(e) == bare(after) {
				t.Fatalf("%q: a bracket could go: %q", out, less)
			}
		}
	}
	if brackets < 300 {
		t.Errorf("only %d brackets", brackets)
	}
}

// withoutBrackets gives the text without each one of its pairs of ( and ) that is not a call's.
func withoutBrackets(text string) []string {
	var out []string
	var open []int
	quoted := false
	for i, c := range []byte(text) {
		switch {
		case c == '"':
			quoted = !quoted
		case quoted:
		case c == '(':
			open = append(open, i)
		case c == ')':
			from := open[len(open)-1]
			open = open[:len(open)-1]
			if from == 0 || strings.IndexByte(" ([{<-", text[from-1]) >= 0 {
				out = append(out, text[:from]+" "+text[from+1:i]+" "+text[i+1:])
			}
		}
	}
	return out
}

// What the layers below are given: where each part begins, and what sort it is.
func TestF4PlacesOfParts(t *testing.T) {
	e, at, err := form.ReadExpr("  a + -f(b)[c].d")
	if err != nil || at != 0 || e.At != 4 || e.Parts[0].At != 2 || e.Parts[1].At != 6 {
		t.Fatalf("%v %v", e, err)
	}
	dot := e.Parts[1].Parts[0]
	if dot.At != 14 || dot.Parts[1].At != 15 || dot.Parts[0].At != 11 || dot.Parts[0].Parts[1].At != 12 || dot.Parts[0].Parts[0].At != 7 {
		t.Errorf("%v", bare(dot))
	}
	for text, want := range map[string]tree.Expr{
		" 12": {Sort: tree.Number, Int: 12}, ` "a b"`: {Sort: tree.Text, Name: "a b"}, " nil": {Sort: tree.Fixed, Op: "nil"}, " a": {Sort: tree.Name, Name: "a"}, " a'": {Sort: tree.Primed, Name: "a"},
		" f(1, 2)": {Sort: tree.Call, Name: "f"}, " unchanged a": {Sort: tree.Unchanged, Name: "a"}, " enabled a": {Sort: tree.Enabled, Name: "a"}, " if 1 then 2 else 3": {Sort: tree.If},
		" let x = 1 : 2": {Sort: tree.Let, Name: "x"}, " all x in 1 : 2": {Sort: tree.Bind, Op: "all", Name: "x"}, " {those x in 1 : 2}": {Sort: tree.Bind, Op: "those", Name: "x"},
		" always 1": {Sort: tree.Time, Op: "always"}, " eventually 1": {Sort: tree.Time, Op: "eventually"}, "1 until 2": {Sort: tree.Time, Op: "until"}, "1 leadsto 2": {Sort: tree.Time, Op: "leadsto"},
		" not 1": {Sort: tree.Operator, Op: "not"}, " -1": {Sort: tree.Operator, Op: "neg"}, "1-2": {Sort: tree.Operator, Op: "-"}, " {1, 2}": {Sort: tree.Operator, Op: "set"}, " <<1, 2>>": {Sort: tree.Operator, Op: "seq"},
		" [1: 2]": {Sort: tree.Operator, Op: "fun"}, "1[2]": {Sort: tree.Operator, Op: "at"}, "1[2 := 3]": {Sort: tree.Operator, Op: "put"}, " size(1)": {Sort: tree.Operator, Op: "size"}, " ((a))": {Sort: tree.Name, Name: "a"},
	} {
		e, _, err := form.ReadExpr(text)
		if err != nil {
			t.Fatalf("%q: %v", text, err)
		}
		place := 1
		if strings.HasPrefix(text, " ((") {
			place = 3
		} else if strings.HasPrefix(text, "1 ") {
			place = 2
		}
		for i, p := range e.Parts {
			if int64(i+1) != p.Int {
				t.Errorf("%q: part %d is %s", text, i, bare(p))
			}
		}
		if e.Sort != want.Sort || e.Op != want.Op || e.Name != want.Name || e.Int != want.Int || e.At != place {
			t.Errorf("%q: got %s at %d", text, bare(e), e.At)
		}
	}
}

func TestF6PlacesOfDeclarations(t *testing.T) {
	m, at, err := form.ReadModule("module m atoms A = {a, b} fair weak c define d(e) == 1")
	if err != nil || at != 0 || m.Ident != (tree.Ident{Name: "m", At: 7}) || len(m.Declarations) != 3 {
		t.Fatalf("%v %v", m, err)
	}
	a, f, d := m.Declarations[0], m.Declarations[1], m.Declarations[2]
	if a.Word != "atoms" || a.At != 9 || a.Ident != (tree.Ident{Name: "A", At: 15}) || !slices.Equal(a.Names, []tree.Ident{{Name: "a", At: 20}, {Name: "b", At: 23}}) || a.Expr != nil {
		t.Errorf("%v", a)
	}
	if f.Word != "fair" || f.At != 26 || f.How != "weak" || f.Ident != (tree.Ident{Name: "c", At: 36}) {
		t.Errorf("%v", f)
	}
	if d.Word != "define" || d.Ident.At != 45 || !slices.Equal(d.Names, []tree.Ident{{Name: "e", At: 47}}) || d.Expr.At != 53 {
		t.Errorf("%v", d)
	}
}
