package run_test

import (
	"fmt"
	"slices"
	"strings"
	"testing"

	"sextant/api"
	"sextant/run"
)

const lamp = `module Lamp
atoms Hands = {left, right}
symmetric Hands
variable on in {false, true}
variable by in Hands union {nil}
init not on and by = nil
action Press == not on and on' = true and by' in Hands
action Go == on and on' = false and by' = nil
fair weak Go
invariant Held == on implies by in Hands
invariant Dark == not on
property Goes == always (on implies eventually not on)
property Rests == eventually always not on
`

// wide has states of 13 bits: more than diagrams and clauses take.
const wide = `module Wide
variable a in 0 .. 4
variable b in 0 .. 4
variable c in 0 .. 4
variable d in 0 .. 2
variable e in 0 .. 2
init a = 0 and b = 0 and c = 0 and d = 0 and e = 0
action Up == a' = a + 1 and b' = 0 and c' = 0 and d' = 0 and e' = 0
invariant Low == a < 4
property High == eventually a = 4
`

// nowhere has no initial state.
const nowhere = `module Nowhere
variable n in 0 .. 2
init false
action Up == n' = n + 1
invariant Zero == n = 0
property Never == eventually false
`

// is holds the answer to a whole text against what is wanted.
func is(t *testing.T, text, want string) {
	t.Helper()
	if got := run.Run(text); got != want {
		t.Errorf("Run(%q):\ngot  %q\nwant %q", text, got, want)
	}
}

// session is a module, with lines that ask.
func session(module string, lines ...string) string {
	return module + "----\n" + strings.Join(lines, "\n")
}

// tells holds the answers to lines, asked one by one and all together, against what is wanted; each row has a line, and what it is answered without the newline at its end.
func tells(t *testing.T, module string, rows ...[2]string) {
	t.Helper()
	lines, all := "", ""
	for _, row := range rows {
		want := row[1]
		if want != "" {
			want += "\n"
		}
		is(t, session(module, row[0])+"\n", want)
		lines += row[0] + "\n"
		all += want
	}
	is(t, session(module, lines), all)
}

// refuses holds the answers to lines that are all answered the same against what is wanted.
func refuses(t *testing.T, module, want string, lines ...string) {
	t.Helper()
	for _, line := range lines {
		tells(t, module, [2]string{line, want})
	}
}

func TestA1Parts(t *testing.T) {
	const one = "states 1 initial 1 edges 0 dead 1 depth 0\n"
	const none = "error ErrSyntax\n"
	for _, row := range [][2]string{
		{"module M\n----\nexplore\n", one},
		{"module M\n----\nexplore", one},
		{"module M\n\n----\nexplore", one},
		{"\nmodule M\n----\nexplore", one},
		{"module M # ----\n----\nexplore", one},
		{"module M\n----\nexplore\nwalk 0 1\nexplore", one + "0:\n" + one},
		{"module M\n----", ""},
		{"module M\n----\n", ""},
		{"module M\n----\n\n", none},
		{"module M\n----\n\n\n", none + none},
		{"module M\n----\n\nexplore", none + one},
		{"module M\n----\nexplore\n\n", one + none},
		{"module M\n----\n----\nexplore", none + one},
		{"module M", ""},
		{"module M\n", ""},
		{"module M explore", "error ErrSyntax at 9\n"},
		{"", "error ErrSyntax at 0\n"},
		{"\n", "error ErrSyntax at 1\n"},
		{"----", "error ErrSyntax at 0\n"},
		{"----\n", "error ErrSyntax at 0\n"},
		{"----\nexplore\nmodule M", "error ErrSyntax at 0\n"},
		{"----\nmodule M\n----\nexplore", "error ErrSyntax at 0\n"},
		{"\n----\nexplore", "error ErrSyntax at 0\n"},
		{"\n\n----\nexplore", "error ErrSyntax at 1\n"},
	} {
		is(t, row[0], row[1])
	}
}

// The line behind the module is `----`, and nothing else; what is only like it is the module's.
func TestA1Line(t *testing.T) {
	for _, like := range []string{"-----", "---", "---- ", "----\r", "----\t", "---- explore", "explore----", "----#"} {
		is(t, "module M\n"+like+"\nexplore", "error ErrSyntax at 9\n")
		is(t, "module M #\n#"+like+"\n----\nwalk 0 1", "0:\n")
	}
	is(t, "module M\n ----\nexplore", "error ErrSyntax at 10\n")
	is(t, "module M----\nexplore", "error ErrSyntax at 8\n")
	is(t, "module M\nconstant c = 1\n---- 1\n----\neval 0 0 c", "2\n")
	is(t, "module M\nconstant c = 1\n----\n1\n----\neval 0 0 c", "error ErrSyntax\nerror ErrSyntax\n1\n")
}

// The module ends ahead of the newline that stands ahead of the line; without that line it ends with the text.
func TestA1End(t *testing.T) {
	is(t, "module M\nvariable v in\n----\nexplore", "error ErrSyntax at 22\n")
	is(t, "module M\nvariable v in\n\n----\nexplore", "error ErrSyntax at 23\n")
	is(t, "module M\nvariable v in", "error ErrSyntax at 22\n")
	is(t, "module M\nvariable v in\n", "error ErrSyntax at 23\n")
	is(t, "module M\nvariable v in ----\n", "error ErrSyntax at 28\n")
	full := "module M" + strings.Repeat(" ", api.MaxText-len("module M"))
	is(t, full+"\n----\nwalk 0 1", "0:\n")
	is(t, full+" \n----\nwalk 0 1", "error ErrFull at 0\n")
	is(t, full, "")
	is(t, full+"\n", "error ErrFull at 0\n")
}

// A text that is too long is not looked at.
func TestA1Full(t *testing.T) {
	begin := session("module M\n", "walk 0 1\nfoo ")
	end := api.MaxRun - len(begin)
	const want = "0:\nerror ErrSyntax\n"
	is(t, begin+strings.Repeat("x", end), want)
	is(t, begin+strings.Repeat("x", end-1)+"\n", want)
	for _, more := range []string{"x", "\n", strings.Repeat("walk 0 1\n", 10000)} {
		is(t, begin+strings.Repeat("x", end)+more, "error ErrFull\n")
	}
	is(t, strings.Repeat("x", api.MaxRun), "error ErrFull at 0\n")
	is(t, strings.Repeat("x", api.MaxRun+1), "error ErrFull\n")
	many := strings.Repeat("walk 0 1\n", (api.MaxRun-len("module M\n----\n"))/len("walk 0 1\n"))
	is(t, "module M\n----\n"+many, strings.Repeat("0:\n", len(many)/len("walk 0 1\n")))
}

// A fault of the module is all that is told.
func TestA1Faults(t *testing.T) {
	for _, row := range [][2]string{
		{"module M\ninit not", "ErrSyntax at 17"},
		{"modul M", "ErrSyntax at 0"},
		{"module M\nconstant c = 99999999999999999999", "ErrRange at 22"},
		{"module M\nconstant c = d", "ErrName at 22"},
		{"module M\ninit 1", "ErrKind at 9"},
		{"module M\nvariable v in {1}\ninvariant I == v' = 1", "ErrLevel at 37"},
		{"module M\natoms A = {x}\nsymmetric A\ninit x = x", "ErrAtom at 40"},
		{"module M\nconstant c = " + strings.Repeat("{", 25), "ErrFull at 46"},
		{"module M\nvariable v in {}", "ErrRange at 18"},
		{"module M\nvariable v in 0 .. 63\nvariable w in 0 .. 63\nvariable u in {1, 2}", "ErrFull at 62"},
	} {
		for _, lines := range []string{"", "\n----", "\n----\nexplore\nfoo\n", "\n----\n\n"} {
			is(t, row[0]+lines, "error "+row[1]+"\n")
		}
	}
}

// The example of the whole, line by line.
func TestA2Table(t *testing.T) {
	tells(t, lamp,
		[2]string{"show", strings.TrimSuffix(lamp, "\n")},
		[2]string{"kind by", "atom 1"},
		[2]string{"eval 0 4 by'", "left"},
		[2]string{"walk 1 4", "0: on = false, by = nil\n1 Press: on = true, by = right\n2 Go: on = false, by = nil\n3 Press: on = true, by = left"},
		[2]string{"explore", "states 3 initial 1 edges 4 dead 0 depth 1"},
		[2]string{"turned", "kept 2 of 3 depth 1"},
		[2]string{"spared Held", "kept 3 whole 3 dead 0 holds"},
		[2]string{"spared Dark", "kept 3 whole 3 dead 0 fails"},
		[2]string{"rings", "nodes 5 rings 1 2"},
		[2]string{"check Held", "holds"},
		[2]string{"check Dark", "fails\n0: on = false, by = nil\n1 Press: on = true, by = left"},
		[2]string{"dead", "holds"},
		[2]string{"live Goes", "holds"},
		[2]string{"live Rests", "fails"},
		[2]string{"within 0 Dark", "holds"},
		[2]string{"within 1 Dark", "fails"},
		[2]string{"within 64 Held", "holds"},
		[2]string{"induct 0 Held", "base yes step no"},
		[2]string{"induct 1 Held", "base yes step yes"},
		[2]string{"induct 1 Dark", "base yes step no"},
		[2]string{"induct 2 Dark", "base no step yes"},
		[2]string{"seal Held", "holds"},
		[2]string{"seal Dark", "fails"},
		[2]string{"branch EX on", "3 of 6"},
		[2]string{"branch AX on", "3 of 6"},
		[2]string{"branch EF by = left", "6 of 6"},
		[2]string{"branch AF by = nil", "6 of 6"},
		[2]string{"branch EG not on", "0 of 6"},
		[2]string{"branch AG on", "0 of 6"},
		[2]string{"foo", "error ErrSyntax"},
	)
}

// What there is nothing of is told, too.
func TestA2Nothing(t *testing.T) {
	tells(t, nowhere,
		[2]string{"explore", "states 0 initial 0 edges 0 dead 0 depth -1"},
		[2]string{"turned", "kept 0 of 0 depth -1"},
		[2]string{"spared Zero", "kept 0 whole 0 dead 0 holds"},
		[2]string{"rings", "nodes 0 rings"},
		[2]string{"walk 5 9", ""},
		[2]string{"check Zero", "holds"},
		[2]string{"dead", "holds"},
		[2]string{"live Never", "holds"},
		[2]string{"within 9 Zero", "holds"},
		[2]string{"induct 9 Zero", "base yes step yes"},
		[2]string{"seal Zero", "holds"},
		[2]string{"branch EX n = 0", "0 of 3"},
		[2]string{"branch AX n = 2", "2 of 3"},
	)
	tells(t, "module M\n",
		[2]string{"show", "module M"},
		[2]string{"explore", "states 1 initial 1 edges 0 dead 1 depth 0"},
		[2]string{"turned", "kept 1 of 1 depth 0"},
		[2]string{"rings", "nodes 0 rings 1"},
		[2]string{"walk 5 9", "0:"},
		[2]string{"dead", "fails\n0:"},
		[2]string{"branch AG true", "1 of 1"},
	)
}

// A module is shown as it is written once more, be it asked as it may; remarks are gone.
func TestA2Show(t *testing.T) {
	const odd = "module  M # odd\nvariable v in{1,2}init(v=1)and((v)=1)action A==v'=3-v\n\n"
	const written = "module M\nvariable v in {1, 2}\ninit v = 1 and v = 1\naction A == v' = 3 - v"
	tells(t, odd, [2]string{"show", written}, [2]string{"walk 0 2", "0: v = 1\n1 A: v = 2"}, [2]string{"show all of it", written})
}

// The way of an answer goes from an initial state to where it does not hold, and has no line of where it goes on.
func TestA2Way(t *testing.T) {
	const climb = "module M\nvariable n in 0 .. 11\ninit n = 0\naction Up == n' = n + 1\ninvariant I == n < 11\ninvariant J == n > 0\n"
	way := "fails\n0: n = 0"
	for i := 1; i < 12; i++ {
		way += fmt.Sprintf("\n%d Up: n = %d", i, i)
	}
	tells(t, climb, [2]string{"check I", way}, [2]string{"dead", way}, [2]string{"check J", "fails\n0: n = 0"}, [2]string{"seal I", "fails"}, [2]string{"spared I", "kept 12 whole 12 dead 1 fails"})
	const still = "module M\nvariable n in 0 .. 2\naction Up == n = 0 and n' = 2\n"
	tells(t, still, [2]string{"dead", "fails\n0: n = 1"}, [2]string{"explore", "states 3 initial 3 edges 1 dead 2 depth 0"})
}

// Numbers are digits, at most nine, with no 0 ahead of others; behind each stands a space, if more follows.
func TestA2Numbers(t *testing.T) {
	const dark = "0: on = false, by = nil"
	for _, line := range []string{"walk 0 1", "walk 7 1", "walk 999999999 1", "walk 123456789 1", "walk 0 1 ", "walk 0 1  ", "walk 0 1 more", "walk 0 1 0 x"} {
		tells(t, lamp, [2]string{line, dark})
	}
	tells(t, lamp, [2]string{"walk 0 0", ""}, [2]string{"walk 999999999 0 1", ""})
	bad := []string{"", "-1", "+1", "00", "01", "007", "1234567890", "0000000001", "1x", "x1", "x", "1_", "0x1", "1.", "1,", "1\t", "\t1", "1\r", "٣", "１", "1\x00", "\xff", "1\xc2", "²", "1e1", "'1'"}
	for _, n := range bad {
		refuses(t, lamp, "error ErrSyntax", "walk "+n+" 1", "walk 1 "+n, "eval "+n+" 0 on", "eval 0 "+n+" on", "within "+n+" Held", "induct "+n+" Held")
	}
	refuses(t, lamp, "error ErrSyntax", "walk", "walk ", "walk 1", "walk 1 ", "walk  1 1", "walk 1  1", "walk 1 1x", "walk 1,1", "walk 11",
		"eval", "eval ", "eval 0", "eval 0 ", "eval  0 0 on", "eval 0  0 on", "eval 0 0on", "eval on", "eval 0 on", "within", "within ", "within Held", "within  1 Held", "within 1Held",
		"induct", "induct ", "induct Held", "induct  1 Held", "induct 1Held")
	lines := strings.Count(run.Run(session(lamp, "walk 5 999999999")), "\n")
	if lines != api.MaxWalk {
		t.Errorf("a walk of %d states", lines)
	}
}

// What is no line of the table.
func TestA2Words(t *testing.T) {
	refuses(t, lamp, "error ErrSyntax", "", " ", "  ", " show", "Show", "SHOW", "shows", "sho", "show\t", "show\r", "show,", "\tshow", "explore\r", "explore;", "graph", "run", "check,Held", "checkHeld", "check\tHeld",
		"----", "#", "# show", "error", "module M", "module", "invariant", "on", "1", "0 1", "\x00", "\xff", "branchEX on", "branch\tEX on", "live\tGoes", "deadly", "turn", "spare Held", "ring", "\"show\"")
}

// What stands behind all that a word wants is not looked at.
func TestA2Behind(t *testing.T) {
	for _, word := range []string{"show", "explore", "turned", "rings", "dead", "walk 3 4"} {
		want := run.Run(session(lamp, word))
		if want == "" || strings.HasPrefix(want, "error") {
			t.Errorf("%s: %q", word, want)
		}
		for _, behind := range []string{" ", "  ", " x", " 1 2", " Held", " \t", "  # on", " \xff"} {
			is(t, session(lamp, word+behind), want)
		}
	}
}

// A name is all of what is left.
func TestA2Names(t *testing.T) {
	for _, word := range []string{"check", "spared", "seal", "within 1", "induct 1"} {
		refuses(t, lamp, "error ErrName at 0", word, word+" ", word+" held", word+"  Held", word+" Held ", word+" Held Dark", word+" Held\r", word+" Goes", word+" Press", word+" on", word+" 'Held'", word+" Hel", word+" \xff")
	}
	refuses(t, lamp, "error ErrName at 0", "live", "live ", "live goes", "live  Goes", "live Goes ", "live Held", "live always on", "live Go")
	refuses(t, lamp, "error ErrName at 0", "within 65 held", "induct 65 held", "within 999999999 ", "induct 0 ")
	refuses(t, lamp, "error ErrRange at 0", "within 65 Held", "induct 65 Held", "within 999999999 Dark", "induct 999999999 Dark")
}

// An expression is all of what is left: places begin where it does.
func TestA2Expressions(t *testing.T) {
	tells(t, lamp,
		[2]string{"kind  by", "atom 1"}, [2]string{"kind by ", "atom 1"}, [2]string{"kind by # who", "atom 1"}, [2]string{"kind\tby", "error ErrSyntax"},
		[2]string{"kind {}", "set of none 0"}, [2]string{"kind [b: on, a: 1]", "error ErrName at 1"}, [2]string{`kind ["b": on, "a": 1]`, "rec(a: int, b: bool) 1"}, [2]string{"kind always on", "bool 3"}, [2]string{"kind left", "atom 0"},
		[2]string{"eval 0 4  by'", "left"}, [2]string{`eval 0 4 "a b"`, `"a b"`}, [2]string{"eval 5 0 on and not on'", "true"}, [2]string{"eval 0 4 <<by, by'>>", "<<nil, left>>"},
		[2]string{"branch EX  on", "3 of 6"}, [2]string{"branch EX on # lit", "3 of 6"}, [2]string{"branch EX nil", "0 of 6"},
	)
	for _, word := range []string{"kind", "eval 0 4", "branch EX"} {
		refuses(t, lamp, "error ErrSyntax at 0", word, word+" ", word+" )", word+" \xff", word+" in on")
		refuses(t, lamp, "error ErrSyntax at 1", word+"  ", word+"  )")
		refuses(t, lamp, "error ErrSyntax at 2", word+" on\r", word+" on\x00", word+" on)")
		refuses(t, lamp, "error ErrName at 0", word+" zz", word+" Goes", word+" zz + 1")
		refuses(t, lamp, "error ErrName at 3", word+"    zz", word+" (((zz)))")
		refuses(t, lamp, "error ErrKind at 2", word+" 1 + on")
		refuses(t, lamp, "error ErrLevel at 0", word+" {always on} = {}")
		refuses(t, lamp, "error ErrRange at 0", word+" 9223372036854775808")
		refuses(t, lamp, "error ErrFull at 24", word+" "+strings.Repeat("(", 25))
		refuses(t, lamp, "error ErrFull at 0", word+" on"+strings.Repeat(" ", api.MaxExpr-1), word+" "+strings.Repeat("x", api.MaxExpr+1))
		if got := run.Run(session(lamp, word+" on"+strings.Repeat(" ", api.MaxExpr-2))); strings.HasPrefix(got, "error") {
			t.Errorf("%s: %s", word, got)
		}
	}
}

// Faults of an expression are told ahead of numbers that are no state's.
func TestA2Eval(t *testing.T) {
	refuses(t, lamp, "error ErrRange at 0", "eval 6 0 on", "eval 0 6 on", "eval 999999999 999999999 on'")
	refuses(t, lamp, "error ErrKind at 2", "eval 6 0 1 + on")
	refuses(t, lamp, "error ErrLevel at 0", "eval 6 0 always on", "eval 0 0 eventually on", "eval 0 0 enabled Go")
	refuses(t, lamp, "error ErrSyntax at 0", "eval 6 6", "eval 6 6 ")
}

func TestA2Branch(t *testing.T) {
	refuses(t, lamp, "error ErrName at 0", "branch", "branch ", "branch  EX on", "branch EU on", "branch AU on", "branch EU", "branch AU zz", "branch ex on", "branch XX on", "branch on", "branch EX\ton", "branch E on", "branch EXX on", "branch XX )")
	refuses(t, lamp, "error ErrLevel at 0", "branch EX on'", "branch AG Press", "branch EF always on")
	refuses(t, lamp, "error ErrKind at 0", "branch EX by", "branch AG 1", "branch EG {}")
}

// States of too many bits: what looks at them bit by bit has a fault, all else goes on.
func TestA2Wide(t *testing.T) {
	refuses(t, wide, "error ErrFull at 0", "rings", "within 1 Low", "induct 1 Low", "seal Low", "branch EX a = 0", "branch EX", "branch AG zz", "branch AF a")
	refuses(t, wide, "error ErrName at 0", "within 1 low", "induct 1 low", "seal low", "branch EU a = 0", "branch XX a = 0")
	refuses(t, wide, "error ErrRange at 0", "within 65 Low", "induct 65 Low")
	tells(t, wide, [2]string{"explore", "states 5 initial 1 edges 4 dead 1 depth 4"}, [2]string{"spared Low", "kept 5 whole 5 dead 1 fails"}, [2]string{"live High", "holds"}, [2]string{"turned", "kept 5 of 5 depth 4"})
}

// A line with a fault is no bar for those behind it.
func TestA2GoesOn(t *testing.T) {
	is(t, session(lamp, "check zz", "dead", "", "eval 9 9 on", "turned", "kind )", "show x", "bad"),
		"error ErrName at 0\nholds\nerror ErrSyntax\nerror ErrRange at 0\nkept 2 of 3 depth 1\nerror ErrSyntax at 0\n"+lamp+"error ErrSyntax\n")
}

// What was asked ahead makes no difference, nor how often.
func TestA3Apart(t *testing.T) {
	lines := []string{"show", "kind [1: by]", "kind by", "eval 0 4 {{by}}", "walk 3 9", "walk 4 9", "explore", "turned", "spared Dark", "rings", "check Dark", "dead", "live Rests", "within 1 Dark", "induct 2 Dark", "seal Held", "branch EX on", "kind {on'}", "bad", ""}
	var alone []string
	for _, line := range lines {
		alone = append(alone, run.Run(session(lamp, line)+"\n"))
	}
	for range 2 {
		is(t, session(lamp, lines...)+"\n", strings.Join(alone, ""))
		slices.Reverse(lines)
		slices.Reverse(alone)
	}
	is(t, session(lamp, slices.Concat(lines, lines)...)+"\n", strings.Join(slices.Concat(alone, alone), ""))
}
