package value_test

import (
	"math"
	"math/big"
	"strconv"
	"strings"
	"testing"

	"sextant/value"
)

// takes: how many values each operator takes; -1: any number.
var takes = map[string]int{
	"not": 1, "and": 2, "or": 2, "implies": 2, "iff": 2, "=": 2, "/=": 2, "<": 2, "<=": 2, ">": 2, ">=": 2,
	"+": 2, "-": 2, "*": 2, "neg": 1, "/": 2, "%": 2, "..": 2, "set": -1, "in": 2, "subset": 2,
	"union": 2, "inter": 2, "minus": 2, "size": 1, "flatten": 1, "powerset": 1, "->": 2, "seqs": 2,
	"fun": -1, "seq": -1, "at": 2, "put": 3, "domain": 1, "values": 1, "len": 1, "head": 1, "tail": 1, "append": 2, "++": 2,
}

// played are calls: an operator, "of", values with ";" between them, "is", a value.
func played(t *testing.T, calls string) {
	t.Helper()
	for line := range strings.Lines(calls) {
		line = strings.TrimSpace(line)
		if line == "" {
			continue
		}
		call, want, _ := strings.Cut(line, " is ")
		op, texts, _ := strings.Cut(call, " of")
		var args []value.V
		if texts != "" {
			args = readAll(t, strings.Split(texts, ";")...)
		}
		if got := value.Apply(op, args...).Show(); got != want {
			t.Errorf("%s: got %s", line, got)
		}
	}
}

func TestV4Logic(t *testing.T) {
	bools := map[bool]string{false: "false", true: "true"}
	for _, a := range []string{"true", "false", "nil", "1", "{true}"} {
		for _, b := range []string{"true", "false", "nil", `"true"`, "<<>>"} {
			x, y := a == "true", b == "true"
			for op, want := range map[string]bool{"and": x && y, "or": x || y, "implies": !x || y, "iff": x == y} {
				if got := value.Apply(op, readAll(t, a, b)...).Show(); got != bools[want] {
					t.Errorf("%s %s %s = %s", a, op, b, got)
				}
			}
		}
		if got := value.Apply("not", read(t, a)).Show(); got != bools[a != "true"] {
			t.Errorf("not %s = %s", a, got)
		}
	}
}

func TestV4SameAndOrder(t *testing.T) {
	played(t, `
		= of 1; 1 is true
		= of 1; 2 is false
		= of nil; false is false
		= of {1, 2}; {2, 1, 2} is true
		= of <<a>>; [1: a] is true
		= of "a"; a is false
		/= of <<>>; {} is true
		/= of nil; nil is false
		< of 1; 2 is true
		< of 2; 2 is false
		< of a; b is false
		< of nil; 1 is false
		< of 1; nil is false
		< of -9223372036854775808; 9223372036854775807 is true
		<= of 2; 2 is true
		<= of 3; 2 is false
		<= of "a"; "a" is false
		> of 3; 2 is true
		> of 2; 2 is false
		> of 2; -3 is true
		> of true; false is false
		>= of 2; 2 is true
		>= of 1; 2 is false
		>= of {}; {} is false`)
}

// All that ints come to, held against numbers of any size.
func TestV4Numbers(t *testing.T) {
	list := []int64{math.MinInt64, math.MinInt64 + 1, -7, -2, -1, 0, 1, 2, 3, 7, 1 << 32, math.MaxInt64 - 1, math.MaxInt64}
	show := func(n int64) string { return strconv.FormatInt(n, 10) }
	for _, a := range list {
		for _, b := range list {
			x, y := big.NewInt(a), big.NewInt(b)
			want := map[string]string{
				"+": wrapped(new(big.Int).Add(x, y)), "-": wrapped(new(big.Int).Sub(x, y)), "*": wrapped(new(big.Int).Mul(x, y)), "/": "nil", "%": "nil",
			}
			if b != 0 {
				want["/"], want["%"] = wrapped(new(big.Int).Quo(x, y)), wrapped(new(big.Int).Rem(x, y))
			}
			for op, w := range want {
				if got := value.Apply(op, readAll(t, show(a), show(b))...).Show(); got != w {
					t.Errorf("%d %s %d = %s, want %s", a, op, b, got, w)
				}
			}
		}
		if got, w := value.Apply("neg", read(t, show(a))).Show(), wrapped(new(big.Int).Neg(big.NewInt(a))); got != w {
			t.Errorf("- %d = %s, want %s", a, got, w)
		}
	}
	for _, op := range []string{"+", "-", "*", "/", "%", ".."} {
		for _, other := range []string{"nil", "true", `"1"`, "a", "{1}", "<<1>>"} {
			for _, l := range [][]string{{"1", other}, {other, "1"}, {other, other}} {
				if got := value.Apply(op, readAll(t, l...)...).Show(); got != "nil" {
					t.Errorf("%s of %v = %s", op, l, got)
				}
			}
			if got := value.Apply("neg", read(t, other)).Show(); got != "nil" {
				t.Errorf("- %s = %s", other, got)
			}
		}
	}
}

// wrapped is a number as the 64 bits of an int have it.
func wrapped(n *big.Int) string {
	low := new(big.Int).And(n, new(big.Int).SetUint64(math.MaxUint64))
	return strconv.FormatInt(int64(low.Uint64()), 10)
}

func TestV4Spans(t *testing.T) {
	played(t, `
		.. of 1; 3 is {1, 2, 3}
		.. of -1; 1 is {-1, 0, 1}
		.. of 4; 4 is {4}
		.. of 4; 3 is {}
		.. of 9223372036854775807; -9223372036854775808 is {}
		.. of 9223372036854775806; 9223372036854775807 is {9223372036854775806, 9223372036854775807}
		.. of -9223372036854775808; -9223372036854775807 is {-9223372036854775808, -9223372036854775807}`)
}

// Sets of some of 1, 2, 3, as the bits of a number.
func bitSet(t *testing.T, bits int) value.V {
	var l []string
	for i := range 3 {
		if bits>>i&1 == 1 {
			l = append(l, strconv.Itoa(i+1))
		}
	}
	return read(t, "{"+strings.Join(l, ",")+"}")
}

func TestV4SetsByBits(t *testing.T) {
	for a := range 8 {
		for b := range 8 {
			for op, want := range map[string]int{"union": a | b, "inter": a & b, "minus": a &^ b} {
				if got := value.Apply(op, bitSet(t, a), bitSet(t, b)); value.Compare(got, bitSet(t, want)) != 0 {
					t.Errorf("%s %s %s = %s", bitSet(t, a).Show(), op, bitSet(t, b).Show(), got.Show())
				}
			}
			if got := value.Apply("subset", bitSet(t, a), bitSet(t, b)).Show(); got != strconv.FormatBool(a&^b == 0) {
				t.Errorf("%s subset %s = %s", bitSet(t, a).Show(), bitSet(t, b).Show(), got)
			}
			in := value.Apply("in", bitSet(t, b), value.Apply("powerset", bitSet(t, a))).Show()
			if in != strconv.FormatBool(b&^a == 0) {
				t.Errorf("%s in powerset %s = %s", bitSet(t, b).Show(), bitSet(t, a).Show(), in)
			}
		}
		for i := range 4 {
			if got := value.Apply("in", read(t, strconv.Itoa(i+1)), bitSet(t, a)).Show(); got != strconv.FormatBool(a>>i&1 == 1) {
				t.Errorf("%d in %s = %s", i+1, bitSet(t, a).Show(), got)
			}
		}
	}
}

func TestV4Sets(t *testing.T) {
	played(t, `
		set is {}
		set of 2; 1; 2 is {1, 2}
		set of nil is {nil}
		in of 1; 1 is false
		in of 1; <<1>> is false
		in of nil; nil is false
		in of nil; {nil} is true
		in of <<>>; {1, <<>>} is true
		subset of {}; {} is true
		subset of 1; {1} is false
		subset of {}; nil is false
		subset of <<>>; <<>> is false
		union of {1}; 1 is nil
		union of nil; {} is nil
		inter of {1}; <<1>> is nil
		minus of 1; {1} is nil
		minus of {1}; nil is nil
		size of {} is 0
		size of {a, b, {}} is 3
		size of <<1>> is nil
		size of nil is nil
		flatten of {} is {}
		flatten of {{}} is {}
		flatten of {{1, 2}, {}, {2, {3}}} is {1, 2, {3}}
		flatten of {{1}, 2} is nil
		flatten of {<<1>>} is nil
		flatten of <<{1}>> is nil
		flatten of {nil} is nil
		powerset of {} is {{}}
		powerset of {b, a} is {{}, {a}, {b}, {a, b}}
		powerset of {1, 2, 3} is {{}, {1}, {2}, {3}, {1, 2}, {1, 3}, {2, 3}, {1, 2, 3}}
		powerset of <<>> is nil
		powerset of nil is nil`)
	if n := value.Apply("size", value.Apply("powerset", value.Apply("..", readAll(t, "0", "6")...))).Show(); n != "128" {
		t.Errorf("powerset of 0 .. 6 has %s sets", n)
	}
}

func TestV4Families(t *testing.T) {
	played(t, `
		-> of {1, 2}; {"a"} is {<<"a", "a">>}
		-> of {}; {} is {<<>>}
		-> of {}; {1, 2} is {<<>>}
		-> of {1}; {} is {}
		-> of {b, a}; {2, 1} is {[a: 1, b: 1], [a: 1, b: 2], [a: 2, b: 1], [a: 2, b: 2]}
		-> of {1}; {nil, {}} is {<<nil>>, <<{}>>}
		-> of <<>>; {} is nil
		-> of {}; <<>> is nil
		-> of nil; nil is nil
		seqs of {7}; 2 is {<<>>, <<7>>, <<7, 7>>}
		seqs of {}; 5 is {<<>>}
		seqs of {}; 0 is {<<>>}
		seqs of {1, 2}; -1 is nil
		seqs of {1, 2}; -9223372036854775808 is nil
		seqs of {1, 2}; 0 is {<<>>}
		seqs of {b, a}; 1 is {<<>>, <<a>>, <<b>>}
		seqs of {b, a}; 2 is {<<>>, <<a>>, <<b>>, <<a, a>>, <<a, b>>, <<b, a>>, <<b, b>>}
		seqs of {1}; nil is nil
		seqs of {1}; true is nil
		seqs of <<1>>; 1 is nil
		seqs of 1; {1} is nil`)
	for a := range 5 {
		for b := range 5 {
			from, to := value.Apply("set", ints(a)...), value.Apply("set", ints(b)...)
			power, sum := 1, 1
			for range a {
				power *= b
				sum += power
			}
			if power < 100 {
				family(t, value.Apply("->", from, to), power)
			}
			if sum < 100 {
				family(t, value.Apply("seqs", to, read(t, strconv.Itoa(a))), sum)
			}
		}
	}
}

// family looks whether a set has so many elements, each of them once, and ascending: as a set has that was read.
func family(t *testing.T, set value.V, n int) {
	t.Helper()
	if again := read(t, set.Show()); value.Apply("size", set).Show() != strconv.Itoa(n) || again.Show() != set.Show() {
		t.Errorf("not %d elements, ascending: %s", n, set.Show())
	}
}

// Of many for one value, too, the first one counts.
func TestV4FirstCounts(t *testing.T) {
	var args []value.V
	var text strings.Builder
	for i := range 300 {
		of, gives := strconv.Itoa((i*7+i/60)%60-30), strconv.Itoa(i)
		args = append(args, readAll(t, of, gives)...)
		text.WriteString(", " + of + ": " + gives)
	}
	made, told := value.Apply("fun", args...), read(t, "["+text.String()[2:]+"]")
	for i := range 60 {
		of := args[2*i]
		for _, f := range []value.V{made, told} {
			if got := value.Apply("at", f, of).Show(); got != strconv.Itoa(i) {
				t.Errorf("%s is given %s, want %d", of.Show(), got, i)
			}
		}
	}
}

func TestV4Functions(t *testing.T) {
	played(t, `
		fun is <<>>
		fun of a; 1; b; 2; a; 3 is [a: 1, b: 2]
		fun of 2; b; 1; a is <<a, b>>
		fun of 1 is nil
		fun of 1; 2; 3 is nil
		fun of nil; nil is [nil: nil]
		at of [a: 1, b: 2]; b is 2
		at of [a: 1, b: 2]; c is nil
		at of <<5, 6>>; 2 is 6
		at of <<5, 6>>; 0 is nil
		at of <<5, 6>>; 3 is nil
		at of {1}; 1 is nil
		at of nil; nil is nil
		at of [{1}: x]; {1, 1} is x
		put of [0: 1, 1: 2]; 1; 3 is [0: 1, 1: 3]
		put of <<1>>; 2; 3 is <<1>>
		put of <<1>>; 1; <<1>> is <<<<1>>>>
		put of <<>>; 1; 1 is <<>>
		put of {1}; 1; 2 is nil
		put of nil; nil; nil is nil
		domain of [b: 1, a: 1] is {a, b}
		domain of <<7, 7>> is {1, 2}
		domain of <<>> is {}
		domain of {1} is nil
		values of [b: 1, a: 1, c: 0] is {0, 1}
		values of <<>> is {}
		values of nil is nil
		values of {1} is nil`)
}

func TestV4Sequences(t *testing.T) {
	played(t, `
		seq is <<>>
		seq of 2; 1; 2 is <<2, 1, 2>>
		seq of nil is <<nil>>
		len of <<>> is 0
		len of <<1, 1>> is 2
		len of [1: a] is 1
		len of [0: a] is nil
		len of [1: a, 3: b] is nil
		len of {1} is nil
		len of "abc" is nil
		head of <<>> is nil
		head of <<a, b>> is a
		head of [0: a, 1: b] is nil
		head of {1} is nil
		tail of <<>> is nil
		tail of <<a>> is <<>>
		tail of <<a, b, c>> is <<b, c>>
		tail of [2: a] is nil
		tail of 1 is nil
		append of <<>>; nil is <<nil>>
		append of <<a>>; <<b>> is <<a, <<b>>>>
		append of [0: a]; b is nil
		append of {}; b is nil
		++ of <<>>; <<>> is <<>>
		++ of <<a>>; <<b, a>> is <<a, b, a>>
		++ of <<a>>; b is nil
		++ of a; <<b>> is nil
		++ of <<a>>; [0: b] is nil
		++ of [0: a]; <<b>> is nil
		++ of {}; {} is nil`)
}

// An operator takes so many values, or there is none of its name.
func TestV4NoneOfThisName(t *testing.T) {
	// With so many values an operator says something of these; so nil shows that there is none.
	some := map[string][]string{
		"union": {"{}", "{}"}, "inter": {"{}", "{}"}, "minus": {"{}", "{}"}, "size": {"{}"}, "flatten": {"{}"}, "powerset": {"{}"}, "->": {"{}", "{}"}, "seqs": {"{}", "0"},
		"at": {"<<1>>", "1"}, "put": {"<<1>>", "1", "1"}, "domain": {"<<>>"}, "values": {"<<>>"}, "len": {"<<>>"}, "head": {"<<1>>"}, "tail": {"<<1>>"}, "append": {"<<>>", "1"}, "++": {"<<>>", "<<>>"},
	}
	for op, n := range takes {
		if n < 0 {
			continue
		}
		texts := some[op]
		if texts == nil {
			texts = []string{"1", "1"}[:n]
		}
		if got := value.Apply(op, readAll(t, texts...)...).Show(); got == "nil" {
			t.Errorf("%s of %v is nil", op, texts)
		}
		for count := range 6 {
			args := readAll(t, append(texts, "1", "1", "1", "1", "1")[:count]...)
			if got := value.Apply(op, args...).Show(); count != n && got != "nil" {
				t.Errorf("%s of %d values: %s", op, count, got)
			}
		}
	}
	for _, op := range []string{"", " ", "NOT", "and ", " and", "==", "!=", "&&", "Set", "{", "put ", "until", "choose", "neg\x00", "\xff", strings.Repeat("set", 1000)} {
		for count := range 5 {
			if got := value.Apply(op, ints(count)...).Show(); got != "nil" {
				t.Errorf("%q of %d values: %s", op, count, got)
			}
		}
	}
}
