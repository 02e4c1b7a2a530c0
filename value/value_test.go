package value_test

import (
	"slices"
	"strconv"
	"strings"
	"testing"

	"sextant/api"
	"sextant/value"
)

// read gives the value of a text that must be one.
func read(t *testing.T, text string) value.V {
	t.Helper()
	v, at, err := value.Read(text)
	if err != nil || at != 0 {
		t.Fatalf("Read(%q): %v at %d", text, err, at)
	}
	return v
}

func readAll(t *testing.T, texts ...string) []value.V {
	t.Helper()
	var list []value.V
	for _, s := range texts {
		list = append(list, read(t, s))
	}
	return list
}

// ints are the values of n ints from 1 on.
func ints(n int) []value.V {
	list := make([]value.V, n)
	for i := range list {
		list[i], _, _ = value.Read(strconv.Itoa(i + 1))
	}
	return list
}

func TestV1ZeroIsNil(t *testing.T) {
	var zero value.V
	if zero.Show() != "nil" || zero.Weight() != 1 || value.Compare(zero, read(t, "nil")) != 0 {
		t.Errorf("the zero V shows %q and weighs %d", zero.Show(), zero.Weight())
	}
}

func TestV1Weight(t *testing.T) {
	for text, want := range map[string]int{
		"nil": 1, "false": 1, "true": 1, "0": 1, "-17": 1, `""`: 1, `"a long text"`: 1, "left": 1,
		"{}": 1, "{1}": 2, "{1, 1, 1}": 2, "{1, 2, {3}}": 5, "{{}, {{}}}": 4,
		"<<>>": 1, "<<7>>": 3, "<<7, 7>>": 5, "<<<<>>, {1}>>": 6,
		"[0: 1]": 3, "[0: 1, 0: {1, 2}]": 3, "[{1, 2}: {3, 4, 5}]": 8, `["a": <<1>>, b: nil]`: 7,
	} {
		if got := read(t, text).Weight(); got != want {
			t.Errorf("%s weighs %d, want %d", text, got, want)
		}
	}
}

// Each way to make a value, just as heavy as may be and just too heavy.
func TestV1NoneIsTooHeavy(t *testing.T) {
	set := func(n int) value.V { return value.Apply("set", ints(n)...) }
	seq := func(n int) value.V { return value.Apply("seq", ints(n)...) }
	one := read(t, "1")
	wrap := func(v value.V) value.V { return value.Apply("set", v) }
	rename := func(n int, by string) value.V { return value.Apply("put", seq(n), one, read(t, by)) }
	fun := func(n int) value.V {
		var l []value.V
		for _, v := range ints(n) {
			l = append(l, wrap(v), v)
		}
		return value.Apply("fun", l...)
	}
	apply := func(op string, texts ...string) value.V { return value.Apply(op, readAll(t, texts...)...) }
	for _, c := range []struct {
		name   string
		most   value.V
		weight int
		beyond value.V
	}{
		{"set", set(1023), 1024, set(1024)},
		{"set within set", wrap(set(1022)), 1024, wrap(set(1023))},
		{"seq", seq(511), 1023, seq(512)},
		{"fun", fun(341), 1024, fun(342)},
		{"..", apply("..", "-5", "1017"), 1024, apply("..", "-5", "1018")},
		{".. of all ints", apply("..", "9223372036854775807", "9223372036854775807"), 2, apply("..", "-9223372036854775808", "9223372036854775807")},
		{".. of half of them", apply("..", "0", "0"), 2, apply("..", "-1", "9223372036854775807")},
		{"union", value.Apply("union", set(1000), apply("..", "900", "1023")), 1024, value.Apply("union", set(1000), apply("..", "900", "1024"))},
		{"put", rename(511, "{1}"), 1024, rename(511, "{1, 2}")},
		{"append", value.Apply("append", seq(510), read(t, "{1}")), 1024, value.Apply("append", seq(510), read(t, "{1, 2}"))},
		{"append one", value.Apply("append", seq(510), one), 1023, value.Apply("append", seq(511), one)},
		{"++", value.Apply("++", seq(300), seq(211)), 1023, value.Apply("++", seq(300), seq(212))},
		{"powerset", apply("powerset", "{0, 1, 2, 3, 4, 5, 6}"), 577, apply("powerset", "{0, 1, 2, 3, 4, 5, 6, 7}")},
		{"powerset of what is heavy", value.Apply("powerset", wrap(set(1020))), 1024, value.Apply("powerset", wrap(set(1021)))},
		{"powerset of much", value.Apply("powerset", set(0)), 2, value.Apply("powerset", set(1023))},
		{"->", value.Apply("->", set(2), set(14)), 981, value.Apply("->", set(2), set(15))},
		{"-> of much", value.Apply("->", set(1023), set(0)), 1, value.Apply("->", set(1023), set(2))},
		{"-> one", value.Apply("->", set(511), set(1)), 1024, value.Apply("->", set(512), set(1))},
		{"-> what is heavy", value.Apply("->", set(1), wrap(set(1020))), 1024, value.Apply("->", set(1), wrap(set(1021)))},
		{"-> none that is light enough", value.Apply("->", set(0), wrap(set(1022))), 2, value.Apply("->", set(1), wrap(set(1022)))},
		{"seqs of one", apply("seqs", "{7}", "30"), 962, apply("seqs", "{7}", "31")},
		{"seqs of two", apply("seqs", "{7, 8}", "5"), 580, apply("seqs", "{7, 8}", "6")},
		{"seqs of one that is heavy", value.Apply("seqs", wrap(set(1018)), one), 1023, value.Apply("seqs", wrap(set(1018)), read(t, "2"))},
		{"seqs of much", value.Apply("seqs", set(340), one), 1022, value.Apply("seqs", set(340), read(t, "9223372036854775807"))},
		{"seqs of none", apply("seqs", "{}", "9223372036854775807"), 2, apply("seqs", "{1}", "9223372036854775807")},
	} {
		if c.most.Show() == "nil" || c.most.Weight() != c.weight {
			t.Errorf("%s: weighs %d, want %d", c.name, c.most.Weight(), c.weight)
		}
		if c.beyond.Show() != "nil" || c.beyond.Weight() != 1 {
			t.Errorf("%s: beyond MaxWeight there is %.60s, which weighs %d", c.name, c.beyond.Show(), c.beyond.Weight())
		}
	}
}

// What is too heavy counts once: it is weighed behind its doubles' going.
func TestV1DoublesWeighNothing(t *testing.T) {
	many := slices.Repeat(readAll(t, "{1, 2}", "3"), 3000)
	if got := value.Apply("set", many...).Show(); got != "{3, {1, 2}}" {
		t.Errorf("set of doubles: %s", got)
	}
	if got := value.Apply("fun", many...).Show(); got != "[{1, 2}: 3]" {
		t.Errorf("fun of doubles: %s", got)
	}
	if got := value.Apply("seq", many...).Show(); got != "nil" {
		t.Errorf("seq of many: %.60s", got)
	}
}

// Values of all sorts, each ahead of the next one.
var ascending = []string{
	"nil", "false", "true",
	"-9223372036854775808", "-2", "-1", "0", "1", "2", "10", "9223372036854775807",
	`""`, `" "`, `"A"`, `"a"`, `"a b"`, `"aa"`, `"ab"`, `"b"`, `"~"`,
	"A", "Z", "a", "a1", "a_", "aa", "b", "z",
	"{}", "{nil}", "{false}", "{2}", `{"b"}`, "{a}", "{{}}", "{{{}}}", "{<<>>}", "{nil, 5}", "{0, 9}", "{1, 2}", "{1, 3}", "{2, 3}", "{{}, {{}}}", "{1, 2, 3}",
	"<<>>",
	"[nil: 9]", "[0: 9]", "<<nil>>", "<<1>>", "<<{}>>", "[2: nil]", `["a": nil]`, "[a: 0]", "[a: 1]", "[{}: nil]", "[<<>>: nil]",
	"[0: 9, 9: 9]", "<<1, 1>>", "<<1, 2>>", "<<2, 1>>", "[1: 0, 3: 0]", `["a": 1, "b": 2]`, `["a": 2, "b": 1]`,
	"<<nil, nil, nil>>", "<<1, 2, 3>>",
}

func TestV2Order(t *testing.T) {
	list := readAll(t, ascending...)
	for i, a := range list {
		for j, b := range list {
			want := 0
			if i < j {
				want = -1
			} else if i > j {
				want = 1
			}
			if got := value.Compare(a, b); got != want {
				t.Errorf("Compare(%s, %s) = %d, want %d", ascending[i], ascending[j], got, want)
			}
		}
	}
}

// A value is the same however it was made, and whatever memory it stands in.
func TestV2SameHoweverMade(t *testing.T) {
	for _, c := range []struct {
		made value.V
		text string
	}{
		{value.Apply("set", readAll(t, "3", "1", "2", "1")...), "{1, 2, 3}"},
		{value.Apply("..", readAll(t, "1", "3")...), "{3, 2, 1}"},
		{value.Apply("fun", readAll(t, "2", "b", "1", "a", "2", "c")...), "<<a, b>>"},
		{value.Apply("seq", readAll(t, "a", "b")...), "[2: b, 1: a, 1: c]"},
		{value.Apply("fun"), "<<>>"},
		{value.Apply("tail", read(t, "<<1>>")), "<<>>"},
		{value.Apply("domain", read(t, "<<a, b>>")), "{1, 2}"},
	} {
		if v := read(t, c.text); value.Compare(c.made, v) != 0 || value.Compare(v, c.made) != 0 || c.made.Show() != v.Show() || c.made.Weight() != v.Weight() {
			t.Errorf("%s and %s are the same", c.made.Show(), c.text)
		}
	}
}

// picker picks by a fixed rule, so that each run of the tests sees the same values.
type picker uint64

func (p *picker) below(n int) int {
	*p = *p*6364136223846793005 + 1442695040888963407
	return int(uint64(*p) >> 33 % uint64(n))
}

// sketch writes the text of some value, at most so deep.
func (p *picker) sketch(deep int) string {
	blank := []string{"", " ", "\t", "\n", "  \n"}[p.below(5)]
	if deep == 0 || p.below(3) == 0 {
		return blank + ascending[p.below(28)]
	}
	var parts []string
	for range p.below(4) {
		parts = append(parts, p.sketch(deep-1))
	}
	switch p.below(3) {
	case 0:
		return blank + "{" + strings.Join(parts, ",") + blank + "}"
	case 1:
		return blank + "<<" + strings.Join(parts, blank+",") + blank + ">>"
	}
	for i := range parts {
		parts[i] += blank + ":" + p.sketch(deep-1)
	}
	return "[" + strings.Join(append(parts, "1:2"), ",") + "]"
}

func TestV2Laws(t *testing.T) {
	p := picker(1)
	var list []value.V
	for range 300 {
		list = append(list, read(t, p.sketch(3)))
	}
	for _, a := range list {
		for _, b := range list {
			d := value.Compare(a, b)
			if d != -value.Compare(b, a) || d < -1 || d > 1 {
				t.Fatalf("%s and %s: %d, and the other way %d", a.Show(), b.Show(), d, value.Compare(b, a))
			}
			if (d == 0) != (a.Show() == b.Show()) {
				t.Fatalf("%s and %s: %d", a.Show(), b.Show(), d)
			}
		}
	}
	slices.SortFunc(list, value.Compare)
	for i := range list {
		for j := range i {
			if value.Compare(list[j], list[i]) > 0 {
				t.Fatalf("%s is behind %s", list[j].Show(), list[i].Show())
			}
		}
	}
}

func TestP3NumbersAreApis(t *testing.T) {
	if api.MaxWeight != 1024 || api.MaxText != 4000 || api.MaxNest != 24 || api.MaxWord != 16 {
		t.Error("the numbers that the tests of this package are written for are others")
	}
}
