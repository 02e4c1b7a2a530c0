package value_test

import (
	"strings"
	"testing"

	"sextant/api"
	"sextant/plain"
	"sextant/value"
)

func TestV3Show(t *testing.T) {
	for text, want := range map[string]string{
		"nil": "nil", "false": "false", "true": "true", "0": "0", "10": "10", "-10": "-10",
		"9223372036854775807":  "9223372036854775807",
		"-9223372036854775808": "-9223372036854775808",
		`""`:                   `""`, `" !#[]^~"`: `" !#[]^~"`, `"in"`: `"in"`,
		"left": "left", "L_9": "L_9", "nil_": "nil_", "trueX": "trueX",
		"{}": "{}", "{2,1,2}": "{1, 2}", "{ <<>> , {} , nil }": "{nil, {}, <<>>}",
		"<<>>": "<<>>", "<<2,1,2>>": "<<2, 1, 2>>", "<<<<1>>>>": "<<<<1>>>>", "<< <<1>> >>": "<<<<1>>>>",
		"[1:2]": "<<2>>", "[2:b,1:a]": "<<a, b>>", "[0:1]": "[0: 1]", "[2:1]": "[2: 1]", "[1:a,3:c]": "[1: a, 3: c]",
		"[b:1,a:2,b:3]": "[a: 2, b: 1]", "[{1}:{2},<<>>:[0:0]]": "[{1}: {2}, <<>>: [0: 0]]", "[true:1]": "[true: 1]",
		"\t\n {\n1\t,\n 2 } \n": "{1, 2}",
	} {
		if got := read(t, text).Show(); got != want {
			t.Errorf("%q shows %q, want %q", text, got, want)
		}
	}
}

// What was written is read as the same value.
func TestV3ShowIsRead(t *testing.T) {
	p := picker(2)
	for range 2000 {
		text := p.sketch(4)
		v := read(t, text)
		again := read(t, v.Show())
		if value.Compare(v, again) != 0 || v.Show() != again.Show() || v.Weight() != again.Weight() {
			t.Fatalf("%q shows %q, and that %q", text, v.Show(), again.Show())
		}
	}
}

// fault is a text with its first fault.
type fault struct {
	text string
	err  api.Errno
	at   int
}

func look(t *testing.T, faults []fault) {
	t.Helper()
	for _, f := range faults {
		v, at, err := value.Read(f.text)
		if plain.Told(err) != f.err || at != f.at || v != (value.V{}) {
			t.Errorf("Read(%.50q) = %.50s, %d, %v; want %v at %d", f.text, v.Show(), at, err, f.err, f.at)
		}
	}
}

func TestV3SyntaxFaults(t *testing.T) {
	var list []fault
	for text, at := range map[string]int{
		// nothing, or too little
		"": 0, " \t\n": 3, "{": 1, "{1": 2, "{1 ": 3, "{1,": 3, "<<": 2, "<<1": 3, "<<1,": 4, "[": 1, "[1": 2, "[1:": 3, "[1:2": 4, "[1:2,": 5, "[1:2,3": 6,
		// what cannot stand where it does
		"}": 0, ">>": 0, "]": 0, ",": 0, ":": 0, "1 2": 2, "1,2": 1, "1:2": 1, "nil nil": 4, "a b": 2, "{}{}": 2, `""""`: 2, "1}": 1,
		"{,}": 1, "{1,}": 3, "{1 2}": 3, "{1>>": 2, "{1]": 2, "{1:2}": 2, "<<1}": 3, "<<,>>": 2, "<<1,>>": 4, "<<1:2>>": 3,
		"[]": 1, "[1]": 2, "[1,2]": 2, "[1:2,]": 5, "[1:]": 3, "[:1]": 1, "[1:2:3]": 4, "[1:2}": 4, "[1::2]": 3,
		"in": 0, "module": 0, "{size}": 1, "{1, and}": 4, "leadsto": 0,
		"{1 abcdefghijklmnopq}": 3, "1 99999999999999999999": 2, `"" 99999999999999999999`: 3,
		// nothing of the grammar
		"<": 0, ">": 0, "<1>": 0, "< <1>>": 0, "<<1> >": 3, "<<1>>>": 5, "<<<1>>": 2, "{1>}": 2, "=": 0, "(1)": 0, "1+1": 1, "{1;2}": 2, "#": 0, "1 # x": 2, "'a'": 0, "\r1": 0, "1\r": 1, "1\v": 1, "\x00": 0, "1\x00": 1, "\u00e9": 0, "a\u00e9": 1, "\xff": 0,
		// ints that are none
		"00": 0, "01": 0, "007": 0, "-": 0, "- 1": 0, "-0": 0, "-01": 0, "--1": 0, "-a": 0, "-_": 0, "+1": 0, "1a": 0, "1_": 0, "1_000": 0, "0x1": 0, "_1": 0, "_": 0, "_a": 0, "-1a": 0, "-1_": 0, "1.5": 1, "1-1": 1, "{1,-}": 3, "{1,-x}": 3,
		"99999999999999999999a": 0, "-99999999999999999999_": 0, "099999999999999999999": 0, " {0, 01}": 5,
		// texts that are none
		`"`: 0, `"a`: 0, `{"a}`: 1, `"a\"`: 0, `"\\"`: 0, "\"\n\"": 0, "\"\t\"": 0, "\"\x1f\"": 0, "\"\x7f\"": 0, "\"\u00e9\"": 0, `"a" "`: 4, `{1, "a\"}`: 4,
	} {
		list = append(list, fault{text, api.ErrSyntax, at})
	}
	look(t, list)
}

func TestV3RangeFaults(t *testing.T) {
	look(t, []fault{
		{"9223372036854775808", api.ErrRange, 0},
		{"-9223372036854775809", api.ErrRange, 0},
		{" {1, 18446744073709551617", api.ErrRange, 5},
		{"<<-10000000000000000000000000000000", api.ErrRange, 2},
		{"abcdefghijklmnopq", api.ErrRange, 0},
		{"{a, abcdefghijklmnopqrstuvwxyz_0123456789", api.ErrRange, 4},
		{"[a: abcdefghijklmnopq ; ", api.ErrRange, 4},
		{"{9223372036854775808 9223372036854775808}", api.ErrRange, 1},
	})
	for _, text := range []string{"9223372036854775807", "-9223372036854775808", "abcdefghijklmnop"} {
		if v := read(t, text); v.Show() != text {
			t.Errorf("%s shows %s", text, v.Show())
		}
	}
}

func TestV3TooLong(t *testing.T) {
	pad := func(text string, n int) string { return text + strings.Repeat(" ", n-len(text)) }
	if got := read(t, pad("{1}", 4000)).Show(); got != "{1}" {
		t.Errorf("of 4000 bytes: %s", got)
	}
	if got := read(t, `"`+strings.Repeat("x", 3998)+`"`).Show(); len(got) != 4000 {
		t.Errorf("a text of 3998 bytes shows %d", len(got))
	}
	look(t, []fault{
		{pad("{1}", 4001), api.ErrFull, 0},
		{pad("}", 4001), api.ErrFull, 0},
		{strings.Repeat("{", 4001), api.ErrFull, 0},
		{pad("9999999999999999999999", 1<<16), api.ErrFull, 0},
		{pad("}", 4000), api.ErrSyntax, 0},
		{strings.Repeat(" ", 4000), api.ErrSyntax, 4000},
	})
}

func TestV3TooManyBrackets(t *testing.T) {
	nest := func(opening, closing string, n int) string {
		return strings.Repeat(opening, n) + "1" + strings.Repeat(closing, n)
	}
	for _, text := range []string{nest("{", "}", 24), nest("<<", ">>", 24), nest("[0: ", "]", 24), nest("<<{", "}>>", 12)} {
		if got := read(t, text).Show(); got != text {
			t.Errorf("%s shows %s", text, got)
		}
	}
	// Brackets that are closed again are not open.
	read(t, "{"+strings.Repeat(nest("{", "}", 23)+",", 20)+nest("<<", ">>", 23)+"}")
	look(t, []fault{
		{nest("{", "}", 25), api.ErrFull, 24},
		{nest("<<", ">>", 25), api.ErrFull, 48},
		{nest("[0: ", "]", 25), api.ErrFull, 96},
		{strings.Repeat("{", 25), api.ErrFull, 24},
		{strings.Repeat("{", 24) + " [ } 99999999999999999999", api.ErrFull, 25},
		{strings.Repeat("{", 24) + "<", api.ErrSyntax, 24},
		{strings.Repeat("{", 24) + "]", api.ErrSyntax, 24},
		{nest("{", "}", 24) + "{", api.ErrSyntax, 49},
		{strings.Repeat("[", 24) + "1 {", api.ErrSyntax, 26},
	})
}

func TestV3TooHeavy(t *testing.T) {
	list := func(n int, item string) string { return strings.TrimSuffix(strings.Repeat(item+",", n), ",") }
	seq := func(n int) string { return "<<" + list(n, "1") + ">>" }
	for text, weight := range map[string]int{
		seq(511):                               1023,
		"{" + seq(511) + "}":                   1024,
		"{" + seq(300) + "," + seq(300) + "}":  602,
		"{" + list(1900, "1") + "}":            2,
		"[" + list(900, "1:2") + "]":           3,
		"[0:0," + list(3, "0:"+seq(500)) + "]": 3,
		"[" + seq(500) + ":1," + seq(500) + ":<<" + list(4, "7") + ">>]": 1003,
	} {
		if v := read(t, text); v.Weight() != weight {
			t.Errorf("%.40s weighs %d, want %d", text, v.Weight(), weight)
		}
	}
	look(t, []fault{
		{seq(512), api.ErrFull, 0},
		{"  " + seq(512), api.ErrFull, 0},
		{"{<<" + seq(511) + ">>}", api.ErrFull, 0},
		{"{" + seq(300) + "," + seq(301) + "}", api.ErrFull, 0},
		{"{1," + seq(512) + "}", api.ErrFull, 0},
		// a part counts, though the whole has another in its place
		{"[0:0,0:" + seq(512) + "]", api.ErrFull, 0},
		{"[" + seq(512) + ":0]", api.ErrFull, 0},
		{"[0:0,0:{" + seq(300) + "," + seq(301) + "}]", api.ErrFull, 0},
		// all else is told ahead of it
		{seq(512) + "1", api.ErrSyntax, 1027},
		{"{" + seq(512) + ",9223372036854775808}", api.ErrRange, 1029},
		{seq(512)[:1000], api.ErrSyntax, 1000},
		{"{" + seq(512) + "," + strings.Repeat("{", 24), api.ErrFull, 1052},
	})
}
