package form_test

import (
	"fmt"
	"strings"
	"testing"

	"sextant/api"
	"sextant/form"
	"sextant/plain"
)

// told is what a call answered, in one text.
func told(text string, at int, err error) string {
	if err == nil && at == 0 {
		return text
	}
	if text != "" {
		return fmt.Sprintf("%q besides %v at %d", text, err, at)
	}
	return fmt.Sprintf("%v at %d", plain.Told(err), at)
}

// look holds what Expr answers against what it should, pair by pair.
func look(t *testing.T, pairs ...string) {
	t.Helper()
	for i := 0; i < len(pairs); i += 2 {
		if got := told(form.Expr(pairs[i])); got != pairs[i+1] {
			t.Errorf("Expr(%q): got %s, want %s", pairs[i], got, pairs[i+1])
		}
	}
}

// same looks for texts that are written once more as they stand.
func same(t *testing.T, texts ...string) {
	t.Helper()
	for _, text := range texts {
		look(t, text, text)
	}
}

// lookModule is as look, of Module.
func lookModule(t *testing.T, pairs ...string) {
	t.Helper()
	for i := 0; i < len(pairs); i += 2 {
		if got := told(form.Module(pairs[i])); got != pairs[i+1] {
			t.Errorf("Module(%q): got %s, want %s", pairs[i], got, pairs[i+1])
		}
	}
}

func TestF1BetweenTokens(t *testing.T) {
	look(t,
		" \t\n a \t\n + \n b \t", "a + b",
		"a#b\n+c", "a + c",
		"a # \"\\ \x00\xff(\n+ #\n#\n b #", "a + b",
		"a#", "a",
		"\"#\" = a", "\"#\" = a",
		"a\r+ b", "ErrSyntax at 1",
		"a\v", "ErrSyntax at 1",
		"a\u00a0", "ErrSyntax at 1",
		"a\x00", "ErrSyntax at 1",
		"#a", "ErrSyntax at 2",
		" ", "ErrSyntax at 1",
		"x ' = f ( a ) . n", "x' = f(a).n",
		"aorb", "aorb",
		"a or b", "a or b",
		"1or b", "ErrSyntax at 0",
		"nota", "nota",
		"not(a)", "not a",
		"-1-1", "-1 - 1",
	)
}

func TestF1Numbers(t *testing.T) {
	same(t, "0", "1", "10", "9223372036854775807")
	look(t,
		"007", "ErrSyntax at 0",
		"00", "ErrSyntax at 0",
		"a + 01", "ErrSyntax at 4",
		"1a", "ErrSyntax at 0",
		"1_", "ErrSyntax at 0",
		"_", "ErrSyntax at 0",
		"_1", "ErrSyntax at 0",
		"_a", "ErrSyntax at 0",
		"a + _", "ErrSyntax at 4",
		"99999999999999999999x", "ErrSyntax at 0",
		"1..2", "1 .. 2",
		"1.a", "1.a",
		"1.2", "ErrSyntax at 2",
	)
}

func TestF1Texts(t *testing.T) {
	same(t, `""`, `"a"`, `" !#~{}'"`, `"1" = ""`, `"not"`)
	look(t,
		`"`, "ErrSyntax at 0",
		`a = "b`, "ErrSyntax at 4",
		"\"a\nb\"", "ErrSyntax at 0",
		"\"a\tb\"", "ErrSyntax at 0",
		`"a\"`, "ErrSyntax at 0",
		`"\n"`, "ErrSyntax at 0",
		"\"\x1f\"", "ErrSyntax at 0",
		"\"\x7f\"", "ErrSyntax at 0",
		"\"\u00e9\"", "ErrSyntax at 0",
		`""""`, "ErrSyntax at 2",
	)
}

// The longest sign that stands there counts.
func TestF1Signs(t *testing.T) {
	look(t,
		"a<=b", "a <= b", "a>=b", "a >= b", "a/=b", "a /= b", "a<b", "a < b", "a>b", "a > b", "a=b", "a = b",
		"a->b", "a -> b", "a..b", "a .. b", "a++b", "a ++ b", "a+b", "a + b", "a-b", "a - b", "a*b", "a * b",
		"a/b", "a / b", "a%b", "a % b", "a.b", "a.b", "a'", "a'", "a[b:=c]", "a[b := c]", "[a:b,c:d]", "[a: b, c: d]",
		"<<<<>>>>", "<<<<>>>>", "<<a>>", "<<a>>", "{{},{a}}", "{{}, {a}}",
		"a<<b", "ErrSyntax at 1", "a< <b", "ErrSyntax at 3", "a>>b", "ErrSyntax at 1", "a==b", "ErrSyntax at 1",
		"a= =b", "ErrSyntax at 3", "a-->b", "ErrSyntax at 2", "a->-b", "a -> -b", "a...b", "ErrSyntax at 3",
		"a+++b", "ErrSyntax at 3", "a:=b", "ErrSyntax at 1", "a[b: =c]", "ErrSyntax at 3", "a<-b", "a < -b",
		"a<=-b", "a <= -b", "a=-b", "a = -b", "<<1>>>2", "<<1>> > 2", "<<1>> >= <<>>", "<<1>> >= <<>>",
		"{1}>={2}", "{1} >= {2}", "a>>=b", "ErrSyntax at 1", "a. .b", "ErrSyntax at 3",
	)
	for c := range 256 {
		text := "a" + string([]byte{byte(c)})
		got := told(form.Expr(text))
		switch {
		case strings.IndexByte(" \t\n#", byte(c)) >= 0 && got == "a":
		case strings.IndexByte("=<>+-*/%([.", byte(c)) >= 0 && got == "ErrSyntax at 2":
		case c == '\'' && got == "a'":
		case (c >= 'a' && c <= 'z' || c >= 'A' && c <= 'Z' || c >= '0' && c <= '9' || c == '_') && got == text:
		case got == "ErrSyntax at 1" && strings.IndexByte(" \t\n#=<>+-*/%([.'_", byte(c)) < 0:
		default:
			t.Errorf("Expr(%q): got %s", text, got)
		}
	}
}

// Of each two rows of F2's table that have signs between parts, the lower one holds more tightly; each sign goes side by side as its row says.
func TestF2Signs(t *testing.T) {
	rows := []struct {
		signs, side string
	}{
		{"leadsto until", ""}, {"iff", "left"}, {"implies", "right"}, {"or", "left"}, {"and", "left"},
		{"= /= < <= > >= in subset", ""}, {"->", ""}, {"..", ""}, {"+ - union minus ++", "left"}, {"* / % inter", "left"},
	}
	for i, row := range rows {
		for _, s := range strings.Fields(row.signs) {
			for _, same := range strings.Fields(row.signs) {
				left, right := "(a "+s+" b) "+same+" c", "a "+s+" (b "+same+" c)"
				plain := "a " + s + " b " + same + " c"
				place := fmt.Sprintf("ErrSyntax at %d", len("a "+s+" b "))
				switch row.side {
				case "left":
					look(t, plain, plain, left, plain, right, right)
				case "right":
					look(t, plain, plain, left, left, right, plain)
				default:
					look(t, plain, place, left, left, right, right)
				}
			}
			for _, tighter := range rows[i+1:] {
				for _, u := range strings.Fields(tighter.signs) {
					look(t,
						"(a "+u+" b) "+s+" (c "+u+" d)", "a "+u+" b "+s+" c "+u+" d",
						"a "+u+" (b "+s+" c)", "a "+u+" (b "+s+" c)",
						"(a "+s+" b) "+u+" c", "(a "+s+" b) "+u+" c")
				}
			}
		}
	}
}

func TestF2AheadOfOnePart(t *testing.T) {
	look(t,
		"not a and b", "not a and b", "(not a) and b", "not a and b", "not (a and b)", "not (a and b)",
		"- a * b", "-a * b", "(- a) * b", "-a * b", "-(a * b)", "-(a * b)", "a = b = c", "ErrSyntax at 6",
		"a + not b", "ErrSyntax at 4", "a + (not b)", "a + (not b)", "not (a = b)", "not a = b", "(not a) = b", "(not a) = b",
		"a = not b", "ErrSyntax at 4", "a and not b", "a and not b", "a and (not b or c)", "a and (not b or c)",
		"not always eventually enabled a", "not always eventually enabled a", "not(always(eventually(enabled a)))", "not always eventually enabled a",
		"enabled a = b", "ErrSyntax at 10", "(enabled a) = b", "(enabled a) = b", "enabled a and b", "enabled a and b",
		"a = enabled b", "ErrSyntax at 4", "a leadsto enabled b", "a leadsto enabled b",
		"-domain powerset flatten unchanged a", "-domain powerset flatten unchanged a",
		"-(domain(powerset(flatten(unchanged a))))", "-domain powerset flatten unchanged a",
		"unchanged a[1]", "ErrSyntax at 11", "(unchanged a)[1]", "(unchanged a)[1]", "unchanged a + b", "unchanged a + b",
		"unchanged a.b", "ErrSyntax at 11", "unchanged a'", "ErrSyntax at 11", "enabled a'", "ErrSyntax at 9",
		"unchanged (a)", "ErrSyntax at 10", "enabled (a)", "ErrSyntax at 8", "enabled 1", "ErrSyntax at 8", "unchanged a(b)", "ErrSyntax at 11",
		"a + unchanged b", "a + unchanged b", "a * -b", "a * -b", "a - -b", "a - -b", "--a", "--a", "a--b", "a - -b",
		"-not a", "ErrSyntax at 1", "-(not a)", "-(not a)", "not -a", "not -a", "not - a = b", "not -a = b",
		"domain f = s", "domain f = s", "domain (f ++ g)", "domain (f ++ g)", "domain f ++ g", "domain f ++ g",
		"domain f[1]", "domain f[1]", "(domain f)[1]", "(domain f)[1]", "-f.a", "-f.a", "(-f).a", "(-f).a",
		"powerset a .. b", "powerset a .. b", "powerset (a .. b)", "powerset (a .. b)", "flatten - a", "flatten -a",
		"always a leadsto b", "always a leadsto b", "always (a leadsto b)", "always (a leadsto b)", "eventually a iff b", "eventually a iff b",
		"not", "ErrSyntax at 3", "-", "ErrSyntax at 1", "domain", "ErrSyntax at 6", "enabled", "ErrSyntax at 7", "unchanged", "ErrSyntax at 9",
		"* a", "ErrSyntax at 0", "a +", "ErrSyntax at 3", "a b", "ErrSyntax at 2", "a not b", "ErrSyntax at 2", "+ a", "ErrSyntax at 0",
	)
}

func TestF2BehindOnePart(t *testing.T) {
	look(t,
		"f[1][2].a[b := c].d", "f[1][2].a[b := c].d",
		"((((f)[1])[2]).a)[b]", "f[1][2].a[b]",
		"(f + g)[1]", "(f + g)[1]", "f + g[1]", "f + g[1]", "(f[1]) + (g.a)", "f[1] + g.a",
		"{1}[2]", "{1}[2]", "<<1>>[2]", "<<1>>[2]", "[1: 2][1]", "[1: 2][1]", "f(1)[2]", "f(1)[2]", "f'[1].a", "f'[1].a", "\"a\"[1]", "\"a\"[1]",
		"nil.a", "nil.a", "size(a).b", "size(a).b", "{each x in S : x}.a", "{each x in S : x}.a",
		"f[]", "ErrSyntax at 2", "f[1", "ErrSyntax at 3", "f[1,2]", "ErrSyntax at 3", "f[1:2]", "ErrSyntax at 3", "f[1 := ]", "ErrSyntax at 7",
		"f[1 := 2", "ErrSyntax at 8", "f[1 := 2 := 3]", "ErrSyntax at 9", "f[1 := 2, 3 := 4]", "ErrSyntax at 8",
		"f.", "ErrSyntax at 2", "f.1", "ErrSyntax at 2", "f.in", "ErrSyntax at 2", "f.nil", "ErrSyntax at 2", "f.\"a\"", "ErrSyntax at 2", "f.(a)", "ErrSyntax at 2",
		"f(1)(2)", "ErrSyntax at 4", "(f)(1)", "ErrSyntax at 3", "f.a(1)", "ErrSyntax at 3", "f[1](2)", "ErrSyntax at 4",
		"(f)'", "ErrSyntax at 3", "f''", "ErrSyntax at 2", "f(1)'", "ErrSyntax at 4", "f'(1)", "ErrSyntax at 2", "f.a'", "ErrSyntax at 3", "1'", "ErrSyntax at 1",
	)
}

func TestF3Words(t *testing.T) {
	look(t,
		"if a then b else c", "if a then b else c",
		"if(a)then(b)else(c)", "if a then b else c",
		"if if a then b else c then let x = d : e else all x in S : p", "if if a then b else c then let x = d : e else all x in S : p",
		"if a then b else c and d", "if a then b else c and d",
		"(if a then b else c) and d", "(if a then b else c) and d",
		"a and if b then c else d", "ErrSyntax at 6",
		"not if a then b else c", "ErrSyntax at 4",
		"- let x = a : b", "ErrSyntax at 2",
		"if a b", "ErrSyntax at 5", "if a then b", "ErrSyntax at 11", "if a else b", "ErrSyntax at 5", "if a then b then c", "ErrSyntax at 12", "if", "ErrSyntax at 2",
		"if a then b else", "ErrSyntax at 16", "if a then b else c else d", "ErrSyntax at 19", "then", "ErrSyntax at 0",
		"let x=1:x+1", "let x = 1 : x + 1",
		"let x = let y = 1 : y : x", "let x = let y = 1 : y : x",
		"let x = (let y = 1 : y) : (x)", "let x = let y = 1 : y : x",
		"let 1 = a : b", "ErrSyntax at 4", "let x == a : b", "ErrSyntax at 6", "let x in a : b", "ErrSyntax at 6", "let x = a, b", "ErrSyntax at 9", "let x = a :", "ErrSyntax at 11", "let in = a : b", "ErrSyntax at 4",
		"let x = a := b", "ErrSyntax at 10", "let x = a = b : c", "let x = a = b : c", "(let x = 1 : x) = 2", "(let x = 1 : x) = 2",
	)
	for _, word := range []string{"all", "some", "choose", "fun"} {
		w := word + " "
		look(t,
			word+"\tx in(S):(p)", w+"x in S : p",
			w+"x in S : "+w+"y in T : p and q", w+"x in S : "+w+"y in T : p and q",
			w+"x in ("+w+"y in S : p) : q", w+"x in ("+w+"y in S : p) : q",
			w+"x in (if a then b else c) : q", w+"x in (if a then b else c) : q",
			w+"x in (S -> T) : p", w+"x in S -> T : p",
			w+"x in (a = b) : p", w+"x in (a = b) : p",
			w+"x in (not a) : p", w+"x in (not a) : p",
			w+"x in -a .. b : p", w+"x in -a .. b : p",
			"("+w+"x in S : p) and q", "("+w+"x in S : p) and q",
			"a = ("+w+"x in S : p)", "a = ("+w+"x in S : p)",
			"{"+w+"x in S : p, "+w+"x in S : q}", "{"+w+"x in S : p, "+w+"x in S : q}",
		)
		for tail, at := range map[string]int{"x in a = b : p": 7, "x in not a : p": 5, "x in if a then b else c : p": 5, "x = S : p": 2, "x in S p": 7, "x in S :": 8,
			"x": 1, "1 in S : p": 0, "(x) in S : p": 0, "x in : p": 5, "x' in S : p": 1, "x in S := p": 7, "x in a in b : c": 7} {
			look(t, w+tail, fmt.Sprintf("ErrSyntax at %d", len(w)+at))
		}
		look(t, "a or "+w+"x in S : p", "ErrSyntax at 5", "a + "+w+"x in S : p", "ErrSyntax at 4")
	}
}

func TestF3First(t *testing.T) {
	same(t, "nil", "true", "false", "a", "a'", "f(a)", "f(a, b', 1)", "{}", "{a}", "{a, b, c}", "<<>>", "<<a>>", "<<a, b>>", "[a: b]", "[a: b, \"c\": 1, 2: nil]",
		"f(if a then b else c, all x in S : p)", "<<let x = a : b>>", "[if a then b else c: all x in S : p, fun x in S : a: b]", "f[if a then b else c]", "f[let x = a : b := some x in S : p]", "{{}}")
	look(t,
		"f()", "ErrSyntax at 2", "f(a,)", "ErrSyntax at 4", "f(a", "ErrSyntax at 3", "f(a b)", "ErrSyntax at 4", "f(,a)", "ErrSyntax at 2", "f(a]", "ErrSyntax at 3",
		"{a", "ErrSyntax at 2", "{a,}", "ErrSyntax at 3", "{,}", "ErrSyntax at 1", "{a]", "ErrSyntax at 2", "{a: b}", "ErrSyntax at 2",
		"<<a", "ErrSyntax at 3", "<<a,>>", "ErrSyntax at 4", "<<a>", "ErrSyntax at 4", "<< >>", "<<>>", "< <a>>", "ErrSyntax at 0",
		"[]", "ErrSyntax at 1", "[a]", "ErrSyntax at 2", "[a:]", "ErrSyntax at 3", "[a: b,]", "ErrSyntax at 6", "[a: b c]", "ErrSyntax at 6", "[a := b]", "ErrSyntax at 3", "[a: b, c]", "ErrSyntax at 8", "[a: b: c]", "ErrSyntax at 5",
		"()", "ErrSyntax at 1", "(a", "ErrSyntax at 2", "(a,b)", "ErrSyntax at 2", ")", "ErrSyntax at 0", "(a))", "ErrSyntax at 3", "(a]", "ErrSyntax at 2",
		"((((a))))", "a", "(1)", "1", "({a})", "{a}",
	)
	for _, word := range []string{"size", "len", "head", "tail", "append", "values", "seqs"} {
		look(t, word+" ( (a),b )", word+"(a, b)", word+"(a)", word+"(a)", word+"(a)[1]", word+"(a)[1]", word+"(not a, if a then b else c)", word+"(not a, if a then b else c)",
			word, fmt.Sprintf("ErrSyntax at %d", len(word)), word+" a", fmt.Sprintf("ErrSyntax at %d", len(word)+1), word+"[1]", fmt.Sprintf("ErrSyntax at %d", len(word)),
			word+"()", fmt.Sprintf("ErrSyntax at %d", len(word)+1), word+"'", fmt.Sprintf("ErrSyntax at %d", len(word)), word+"(a", fmt.Sprintf("ErrSyntax at %d", len(word)+2))
	}
	for _, word := range []string{"each", "those"} {
		w := "{" + word + " "
		look(t,
			"{"+word+"\nx in(S):(p)}", w+"x in S : p}", w+"x in (a = b) : p}", w+"x in (a = b) : p}", w+"x in (S -> T) : p}", w+"x in S -> T : p}",
			w+"x in S : if a then b else c}", w+"x in S : if a then b else c}", w+"x in (all y in S : p) : q} union a", w+"x in (all y in S : p) : q} union a",
			w+"x in S : p, q}", fmt.Sprintf("ErrSyntax at %d", len(w)+10), w+"x in a = b : p}", fmt.Sprintf("ErrSyntax at %d", len(w)+7), w+"x in S : p", fmt.Sprintf("ErrSyntax at %d", len(w)+10),
			w+"in S : p}", fmt.Sprintf("ErrSyntax at %d", len(w)), w+"x : p}", fmt.Sprintf("ErrSyntax at %d", len(w)+2), "{"+word+"}", fmt.Sprintf("ErrSyntax at %d", len(word)+1),
			word+" x in S : p", "ErrSyntax at 0", "{a, "+word+" x in S : p}", "ErrSyntax at 4", "<<"+word+" x in S : p>>", "ErrSyntax at 2", "("+word+" x in S : p)", "ErrSyntax at 1",
		)
	}
	for _, word := range strings.Fields("module constant atoms symmetric variable define init action fair weak strong invariant property and in union then else weak until") {
		look(t, word, "ErrSyntax at 0", "a + "+word, "ErrSyntax at 4", "f("+word+")", "ErrSyntax at 2", "let "+word+" = 1 : 2", "ErrSyntax at 4", "enabled "+word, "ErrSyntax at 8")
	}
}

// What begins a level, what ends it, and how many bytes of it stand ahead of what begins it.
var levels = []struct {
	opening, closing string
	ahead            int
}{
	{"(", ")", 0}, {"{", "}", 0}, {"<<", ">>", 0}, {"{b,", "}", 0}, {"[b:", "]", 0}, {"[", ":b]", 0}, {"b[", "]", 1}, {"b[c:=", "]", 1}, {"b[", ":=c]", 1},
	{"b(", ")", 1}, {"b(c,", ")", 1}, {"size(", ")", 4}, {"seqs(b,", ")", 4}, {"{each x in b:", "}", 0}, {"{those x in ", ":b}", 0},
	{"not ", "", 0}, {"always ", "", 0}, {"eventually ", "", 0}, {"-", "", 0}, {"domain ", "", 0}, {"powerset ", "", 0}, {"flatten ", "", 0},
	{"if ", " then b else c", 0}, {"if b then ", " else c", 0}, {"if b then c else ", "", 0}, {"let x=b:", "", 0}, {"let x=", ":b", 0},
	{"all x in b:", "", 0}, {"some x in b:", "", 0}, {"choose x in b:", "", 0}, {"fun x in b:", "", 0},
}

func TestF3Levels(t *testing.T) {
	for _, l := range levels {
		deep := strings.Repeat(l.opening, api.MaxNest) + "a" + strings.Repeat(l.closing, api.MaxNest)
		if _, at, err := form.Expr(deep); err != nil {
			t.Errorf("Expr(%q): %v at %d", deep, err, at)
		}
		place := fmt.Sprintf("ErrFull at %d", len(l.opening)*api.MaxNest+l.ahead)
		look(t, strings.Repeat(l.opening, api.MaxNest+1), place)
		look(t, strings.Repeat(l.opening, api.MaxNest+1)+"a"+strings.Repeat(l.closing, api.MaxNest+1), place)
		lookModule(t, "module m init "+strings.Repeat(l.opening, api.MaxNest+1), fmt.Sprintf("ErrFull at %d", len("module m init "+l.opening)+len(l.opening)*(api.MaxNest-1)+l.ahead))
	}
}

// Each beginning of a level counts with all the others, and none of those that it is not within.
func TestF3LevelsTogether(t *testing.T) {
	brackets := strings.Repeat("(", api.MaxNest-1)
	closed := strings.Repeat(")", api.MaxNest-1)
	for _, l := range levels {
		if strings.Contains(l.opening, " in ") && strings.HasSuffix(l.closing, ":b}") { // P8 stands there, as in the next two
			continue
		}
		look(t, brackets+l.opening+"(", fmt.Sprintf("ErrFull at %d", len(brackets+l.opening)))
	}
	for _, ahead := range []string{"all x in ", "{each x in ", "fun x in ", "{those x in "} {
		look(t, brackets+ahead+"(", fmt.Sprintf("ErrFull at %d", len(brackets+ahead)), brackets+ahead+"a:(", fmt.Sprintf("ErrFull at %d", len(brackets+ahead)+2))
	}
	deep := brackets + "(a)" + closed
	for _, text := range []string{deep + " + " + deep, "{" + "(a)" + "," + brackets + "a" + closed + "}", brackets + "a[b][c].d + e(f)" + closed, brackets + "not a and not b" + closed,
		brackets + "-a - -b" + closed, brackets + "a implies b implies c - d - e" + closed, brackets + "unchanged a and enabled b" + closed, brackets + "(a.b).c" + closed, brackets + "a'" + closed,
		"- unchanged a", brackets + "-unchanged a" + closed, brackets + "not enabled a" + closed, brackets + "(enabled a)" + closed, brackets + "{a, (b)}" + closed} {
		_, at, err := form.Expr(text)
		if bad := strings.Contains(text, "{a, (b)}"); (err != nil) != bad {
			t.Errorf("Expr(%q): %v at %d", text, err, at)
		}
	}
	look(t, brackets+"({}"+closed, fmt.Sprintf("ErrFull at %d", len(brackets)+1), brackets+"{}"+closed, "{}", brackets+"(<<>>"+closed, fmt.Sprintf("ErrFull at %d", len(brackets)+1))
}

// A level ends where what it belongs to ends: side by side there may be any number.
func TestF3LevelsSideBySide(t *testing.T) {
	for _, l := range levels {
		one := "(" + l.opening + "a" + l.closing + ")"
		text := "module m init {" + strings.Repeat(one+",", 2*api.MaxNest) + one + "}"
		if _, at, err := form.Module(text); err != nil {
			t.Errorf("Module(%q): %v at %d", text, err, at)
		}
	}
}

func TestF4TooLong(t *testing.T) {
	look(t,
		strings.Repeat(" ", 999)+"a", "a",
		strings.Repeat(" ", 1000)+"a", "ErrFull at 0",
		strings.Repeat(")", 1001), "ErrFull at 0",
		strings.Repeat(")", 1000), "ErrSyntax at 0",
		"a"+strings.Repeat(" ", 999), "a",
		strings.Repeat("#", 1001), "ErrFull at 0",
	)
	lookModule(t,
		"module m"+strings.Repeat("\n", 3992), "module m\n",
		"module m"+strings.Repeat("\n", 3993), "ErrFull at 0",
		strings.Repeat("(", 4001), "ErrFull at 0",
		strings.Repeat("(", 4000), "ErrSyntax at 0",
	)
	long := strings.Repeat("a+", 1900) + "a"
	lookModule(t, "module m init "+long, "module m\ninit "+strings.ReplaceAll(long, "+", " + ")+"\n")
}

func TestF4Places(t *testing.T) {
	sixteen := "abcdefghijklmnop"
	long := sixteen + "q"
	same(t, sixteen, sixteen+"'", sixteen+"("+sixteen+")", "f."+sixteen, "let "+sixteen+" = 1 : 2", "enabled "+sixteen, "unchanged "+sixteen)
	look(t,
		"9223372036854775808", "ErrRange at 0", "a + 9223372036854775808", "ErrRange at 4", "-9223372036854775808", "ErrRange at 1", "99999999999999999999999999", "ErrRange at 0",
		"a 9223372036854775808", "ErrSyntax at 2", "let 9223372036854775808", "ErrSyntax at 4", "9223372036854775808 )", "ErrRange at 0",
		long, "ErrRange at 0", "a + "+long, "ErrRange at 4", long+"'", "ErrRange at 0", long+"(", "ErrRange at 0", "f."+long, "ErrRange at 2", "f("+long, "ErrRange at 2",
		"let "+long, "ErrRange at 4", "all "+long, "ErrRange at 4", "{each "+long, "ErrRange at 6", "enabled "+long, "ErrRange at 8", "unchanged "+long, "ErrRange at 10",
		"a "+long, "ErrSyntax at 2", "if a "+long, "ErrSyntax at 5", "a "+long+" (", "ErrSyntax at 2", long+" @", "ErrRange at 0", "@ "+long, "ErrSyntax at 0",
		"", "ErrSyntax at 0", "  \n", "ErrSyntax at 3", "(a  ", "ErrSyntax at 4", "(a # b", "ErrSyntax at 6", "a + # b\n", "ErrSyntax at 8",
		"a @", "ErrSyntax at 2", "(@", "ErrSyntax at 1", "a ; b", "ErrSyntax at 2", "a & b", "ErrSyntax at 2", "\xff", "ErrSyntax at 0", "!a", "ErrSyntax at 0", "a \\ b", "ErrSyntax at 2",
		strings.Repeat("(", 25)+"@", "ErrFull at 24", strings.Repeat("(", 24)+"@", "ErrSyntax at 24", strings.Repeat("(", 24)+long, "ErrRange at 24",
		strings.Repeat("(", 24)+"a + not", "ErrSyntax at 28", strings.Repeat("not ", 24), "ErrSyntax at 96",
	)
}

func TestF5Written(t *testing.T) {
	look(t,
		"((a)+b)*-c", "(a + b) * -c", "a-(b-c)", "a - (b - c)", "(a implies b) implies c", "(a implies b) implies c",
		"not(a=1)and b", "not a = 1 and b", "- - a", "--a", "-(a[1])[\"x\"].y", "-a[1].x.y",
		"{those x in 1..(n+1):(x>1)}", "{those x in 1 .. n + 1 : x > 1}", "(f)[1:=2]", "f[1 := 2]",
		"a and some x in S : p", "ErrSyntax at 6", "a = b = c", "ErrSyntax at 6", "007", "ErrSyntax at 0", "f()", "ErrSyntax at 2", "{a", "ErrSyntax at 2",
		"[1 : 2 , \"a\":3]", "[1: 2, \"a\": 3]", "[\"in\"]", "ErrSyntax at 5", "f[\"in\"]", "f[\"in\"]",
	)
	look(t,
		"f[\"abcdefghijklmnop\"]", "f.abcdefghijklmnop", "f[\"abcdefghijklmnopq\"]", "f[\"abcdefghijklmnopq\"]", "f[\"\"]", "f[\"\"]", "f[\"1\"]", "f[\"1\"]", "f[\"a b\"]", "f[\"a b\"]",
		"f[\"_a\"]", "f[\"_a\"]", "f[\"a_1\"]", "f.a_1", "f[((\"a\"))]", "f.a", "f[\"a\" := 1]", "f[\"a\" := 1]", "f[\"a\"][\"b\" := \"c\"].d", "f.a[\"b\" := \"c\"].d",
		"f[\"a\" ++ \"b\"]", "f[\"a\" ++ \"b\"]", "f[a]", "f[a]", "f.a.b", "f.a.b", "1[\"a\"]", "1.a", "{\"a\"}", "{\"a\"}", "[\"a\":1][\"a\"]", "[\"a\": 1].a", "f[nil]", "f[nil]",
		"f[\"true\"]", "f[\"true\"]", "f[\"a\"[\"b\"]]", "f[\"a\".b]", "f(\"a\")", "f(\"a\")",
	)
	wide := strings.Repeat("1+", 499) + "1"
	look(t, wide, strings.ReplaceAll(wide, "+", " + "))
}

const lamp = `module Lamp
atoms Hands = {left, right}
symmetric Hands
variable on in {false, true}
variable by in Hands union {nil}
init not on and by = nil
action Press == not on and on' = true and by' in Hands
action Go == on and on' = false and by' = nil
fair weak Go
invariant Held == on implies by in Hands
invariant Dark == not on
property Goes == always (on implies eventually not on)
property Rests == eventually always not on
`

func TestF6Written(t *testing.T) {
	lookModule(t,
		lamp, lamp,
		strings.ReplaceAll(lamp, "\n", " # so \"\n\t"), lamp,
		strings.ReplaceAll(lamp, "\n", " "), lamp,
		"module m", "module m\n",
		" # so\nmodule\tm#", "module m\n",
		"module m constant c=(1)constant d=if a then b else c", "module m\nconstant c = 1\nconstant d = if a then b else c\n",
		"module m atoms A={a}atoms B = { a , b,c }", "module m\natoms A = {a}\natoms B = {a, b, c}\n",
		"module m symmetric A symmetric A", "module m\nsymmetric A\nsymmetric A\n",
		"module m variable x in(1..2)variable y in x in z", "module m\nvariable x in 1 .. 2\nvariable y in x in z\n",
		"module m variable x in all y in S : p", "module m\nvariable x in all y in S : p\n",
		"module m define d==a define e(a)==b define f ( a , b,c )==let x=a:b", "module m\ndefine d == a\ndefine e(a) == b\ndefine f(a, b, c) == let x = a : b\n",
		"module m init(a)init -a init{}", "module m\ninit a\ninit -a\ninit {}\n",
		"module m action a==b' action c==(all x in S:p)", "module m\naction a == b'\naction c == all x in S : p\n",
		"module m fair weak a fair strong b", "module m\nfair weak a\nfair strong b\n",
		"module m invariant a==b invariant c==d=e", "module m\ninvariant a == b\ninvariant c == d = e\n",
		"module m property a==always(b)property c==(d leadsto e)", "module m\nproperty a == always b\nproperty c == d leadsto e\n",
		"module m init f init (a)", "module m\ninit f\ninit a\n",
		"module m init f (a)", "module m\ninit f(a)\n",
		"module m define d (a) == a init d (1)", "module m\ndefine d(a) == a\ninit d(1)\n",
		"module Module init inits", "module Module\ninit inits\n",
	)
}

func TestF6Faults(t *testing.T) {
	lookModule(t, "", "ErrSyntax at 0", " ", "ErrSyntax at 1", "modul m", "ErrSyntax at 0", "a", "ErrSyntax at 0", "module", "ErrSyntax at 6", "module in", "ErrSyntax at 7", "module 1", "ErrSyntax at 7",
		"module abcdefghijklmnopq", "ErrRange at 7", "init a", "ErrSyntax at 0", "module m module n", "ErrSyntax at 9", "module \"m\"", "ErrSyntax at 7")
	const head = "module m "
	for text, want := range map[string]string{
		"a": "ErrSyntax at 0", "1": "ErrSyntax at 0", "@": "ErrSyntax at 0", "weak": "ErrSyntax at 0", "{": "ErrSyntax at 0", "abcdefghijklmnopq": "ErrSyntax at 0", "a == b": "ErrSyntax at 0", "in": "ErrSyntax at 0",
		"constant": "ErrSyntax at 8", "constant c": "ErrSyntax at 10", "constant c ==": "ErrSyntax at 11", "constant c =": "ErrSyntax at 12", "constant 1 = 2": "ErrSyntax at 9", "constant c(a) = 1": "ErrSyntax at 10",
		"constant in = 1": "ErrSyntax at 9", "constant abcdefghijklmnopq = 1": "ErrRange at 9", "constant c = 1 2": "ErrSyntax at 15", "constant c = 1,": "ErrSyntax at 14", "constant c = constant d = 1": "ErrSyntax at 13",
		"atoms": "ErrSyntax at 5", "atoms A": "ErrSyntax at 7", "atoms A ==": "ErrSyntax at 8", "atoms A = a": "ErrSyntax at 10", "atoms A = {}": "ErrSyntax at 11", "atoms A = {a": "ErrSyntax at 12", "atoms A = {a,}": "ErrSyntax at 13",
		"atoms A = {1}": "ErrSyntax at 11", "atoms A = {a b}": "ErrSyntax at 13", "atoms A = {nil}": "ErrSyntax at 11", "atoms A = {a, abcdefghijklmnopq}": "ErrRange at 14", "atoms A = {(a)}": "ErrSyntax at 11", "atoms A = {a} union B": "ErrSyntax at 14", "atoms A = {\"a\"}": "ErrSyntax at 11",
		"symmetric": "ErrSyntax at 9", "symmetric {a}": "ErrSyntax at 10", "symmetric A, B": "ErrSyntax at 11", "symmetric abcdefghijklmnopq": "ErrRange at 10", "symmetric A = {a}": "ErrSyntax at 12",
		"variable": "ErrSyntax at 8", "variable x": "ErrSyntax at 10", "variable x = 1": "ErrSyntax at 11", "variable x in": "ErrSyntax at 13", "variable x' in A": "ErrSyntax at 10", "variable abcdefghijklmnopq in A": "ErrRange at 9",
		"define": "ErrSyntax at 6", "define d": "ErrSyntax at 8", "define d = 1": "ErrSyntax at 9", "define d() == 1": "ErrSyntax at 9", "define d(a == 1": "ErrSyntax at 11", "define d(a,) == 1": "ErrSyntax at 11", "define d(1) == 1": "ErrSyntax at 9", "define d(a) = 1": "ErrSyntax at 12",
		"define d(a)(b) == 1": "ErrSyntax at 11", "define d(abcdefghijklmnopq) == 1": "ErrRange at 9", "define abcdefghijklmnopq == 1": "ErrRange at 7", "define d[a] == 1": "ErrSyntax at 8",
		"init": "ErrSyntax at 4", "init == a": "ErrSyntax at 5", "init a b": "ErrSyntax at 7", "init a == b": "ErrSyntax at 7", "init init a": "ErrSyntax at 5",
		"action": "ErrSyntax at 6", "action a": "ErrSyntax at 8", "action a = b": "ErrSyntax at 9", "action a ==": "ErrSyntax at 11", "action a(b) == c": "ErrSyntax at 8", "action {": "ErrSyntax at 7", "action abcdefghijklmnopq == 1": "ErrRange at 7",
		"fair": "ErrSyntax at 4", "fair a": "ErrSyntax at 5", "fair weak": "ErrSyntax at 9", "fair weak strong a": "ErrSyntax at 10", "fair weak a b": "ErrSyntax at 12", "fair strong 1": "ErrSyntax at 12", "fair weak abcdefghijklmnopq": "ErrRange at 10", "fair weak a == b": "ErrSyntax at 12",
		"invariant": "ErrSyntax at 9", "invariant a": "ErrSyntax at 11", "invariant a = b": "ErrSyntax at 12", "invariant a == ": "ErrSyntax at 15", "invariant abcdefghijklmnopq == 1": "ErrRange at 10",
		"property": "ErrSyntax at 8", "property a": "ErrSyntax at 10", "property a in b": "ErrSyntax at 11", "property a == ": "ErrSyntax at 14", "property abcdefghijklmnopq == 1": "ErrRange at 9",
		"init 9223372036854775808": "ErrRange at 5", "init a = b = c": "ErrSyntax at 11", "init a) init b": "ErrSyntax at 6", "init \"a": "ErrSyntax at 5", "init 007": "ErrSyntax at 5",
	} {
		var name string
		var at int
		fmt.Sscanf(want, "%s at %d", &name, &at)
		lookModule(t, head+text, fmt.Sprintf("%s at %d", name, at+len(head)))
	}
}

// What R1 asks of the form: names, their places, and the expressions, whose places are those in the whole text.
func TestR1Given(t *testing.T) {
	list, at, err := form.ReadGiven(" a = b = c ,\n# d = 1\n e=(f)")
	if err != nil || at != 0 || len(list) != 2 {
		t.Fatal(list, at, err)
	}
	for i, want := range []struct {
		name     string
		at, expr int
	}{{"a", 1, 7}, {"e", 22, 25}} {
		got := list[i]
		if got.Ident.Name != want.name || got.Ident.At != want.at || got.Expr.At != want.expr {
			t.Errorf("got %v, %v", got.Ident, got.Expr)
		}
	}
	for _, text := range []string{"", "\n", " # a = 1"} {
		if list, at, err := form.ReadGiven(text); len(list) != 0 || at != 0 || err != nil {
			t.Errorf("%q: got %v, %v at %d", text, list, err, at)
		}
	}
	for text, want := range map[string]string{
		"a": "ErrSyntax at 1", "a = 1,": "ErrSyntax at 6", "a = 1 b = 1": "ErrSyntax at 6", "a = 1)": "ErrSyntax at 5", "a == 1": "ErrSyntax at 2", "a = 1 \xff": "ErrSyntax at 6", "all = 1": "ErrSyntax at 0",
		"abcdefghijklmnopq = 1": "ErrRange at 0", "a = 1" + strings.Repeat(" ", api.MaxExpr): "ErrFull at 0",
	} {
		list, at, err := form.ReadGiven(text)
		if got := told("", at, err); got != want || len(list) != 0 {
			t.Errorf("%q: got %v, %s, want %s", text, list, got, want)
		}
	}
}
