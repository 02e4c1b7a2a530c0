package value_test

import (
	"slices"
	"strings"
	"testing"

	"sextant/api"
	"sextant/plain"
	"sextant/value"
)

// calm calls something that must not panic.
func calm(t *testing.T, what string, call func()) {
	t.Helper()
	defer func() {
		if e := recover(); e != nil {
			t.Errorf("%.60q panics: %v", what, e)
		}
	}()
	call()
}

// edges are values at the edges of what there is.
func edges(t *testing.T) []value.V {
	list := readAll(t, "nil", "true", "0", "-1", "9223372036854775807", "-9223372036854775808", `""`, "a", "{}", "{nil}", "{{}, {1}}", "<<>>", "<<1, {2}>>", "[0: 1, a: <<>>]")
	deep := value.V{}
	for range 1023 {
		deep = value.Apply("set", deep)
	}
	return append(list, deep, value.Apply("set", ints(1023)...), value.Apply("seq", ints(511)...))
}

func TestP1NoOperatorPanics(t *testing.T) {
	list := edges(t)
	look := func(op string, args ...value.V) {
		calm(t, op, func() {
			v := value.Apply(op, args...)
			if v.Weight() > api.MaxWeight || v.Weight() < 1 || v.Show() == "" || value.Compare(v, v) != 0 {
				t.Errorf("%s gives what weighs %d", op, v.Weight())
			}
		})
	}
	for op := range takes {
		look(op)
		look(op, nil...)
		for _, a := range list {
			look(op, a)
			for _, b := range list {
				look(op, a, b)
				look(op, a, b, a)
				look(op, a, b, b, a)
			}
		}
	}
}

// broken texts: what is left of a text, cut, doubled, and with each byte another.
func broken(text string) []string {
	var list []string
	for i := range len(text) {
		list = append(list, text[:i], text[i:], text[:i]+text[i+1:], text[:i]+text)
		for _, c := range []string{"{", "}", "<", "<<", "[", ":", ",", `"`, "-", "0", "_", "a", " ", "\x00", "\xff"} {
			list = append(list, text[:i]+c+text[i:], text[:i]+c+text[i+1:])
		}
	}
	return list
}

func TestP1NoTextPanics(t *testing.T) {
	p := picker(3)
	list := []string{strings.Repeat("[", 4000), strings.Repeat("<", 4000), strings.Repeat("{1,", 1300), strings.Repeat("-", 1<<20), strings.Repeat("9", 4000), strings.Repeat("a", 4000)}
	list = append(list, broken(`[ {1, -20}: <<"a b", nil>>, left: {}, [0: 0]: true]`)...)
	for range 40 {
		list = append(list, broken(p.sketch(2))...)
	}
	for _, text := range list {
		calm(t, text, func() {
			v, at, err := value.Read(text)
			if err != nil && (v != (value.V{}) || at < 0 || at > len(text)) || err == nil && at != 0 {
				t.Errorf("Read(%q) = %s, %d, %v", text, v.Show(), at, err)
			}
			if e := plain.Told(err); e != api.OK && e != api.ErrSyntax && e != api.ErrRange && e != api.ErrFull {
				t.Errorf("Read(%q): %v", text, err)
			}
		})
	}
}

func TestP1DeepValues(t *testing.T) {
	deep, other := value.V{}, value.Apply("seq")
	for range 5000 {
		deep = value.Apply("set", deep)
		if deep.Weight() == 1 {
			other = value.Apply("seq", other)
		}
	}
	calm(t, "deep", func() {
		if value.Compare(deep, other) == 0 || deep.Show() == other.Show() {
			t.Error("a set is no sequence")
		}
	})
}

// Lists that are handed in are neither written into nor kept.
func TestP2ListsStayTheCallers(t *testing.T) {
	texts := []string{"{3, 1}", "2", "<<b, a>>", "1", "{3, 1}", "1"}
	for op, n := range takes {
		counts := []int{n}
		if n < 0 {
			counts = []int{0, 1, 2, 3, 4, 5, 6}
		}
		for _, count := range counts {
			for from := range len(texts) - count + 1 {
				args := readAll(t, texts[from:from+count]...)
				spare := append(slices.Clone(args), read(t, "spare"))
				got := value.Apply(op, spare[:count]...)
				before := got.Show()
				for i, v := range spare[:count] {
					if v.Show() != args[i].Show() {
						t.Errorf("%s of %v writes %s in the place of %s", op, texts[from:from+count], v.Show(), args[i].Show())
					}
				}
				if spare[count].Show() != "spare" {
					t.Errorf("%s writes behind the list", op)
				}
				for i := range spare {
					spare[i] = read(t, "other")
				}
				if got.Show() != before {
					t.Errorf("%s of %v keeps the list: %s, and then %s", op, texts[from:from+count], before, got.Show())
				}
			}
		}
	}
}

// What was made stays as it is, whatever is made of it.
func TestP2ValuesStay(t *testing.T) {
	p := picker(4)
	list := edges(t)[:14]
	for range 60 {
		list = append(list, read(t, p.sketch(3)))
	}
	var shown []string
	for _, v := range list {
		shown = append(shown, v.Show())
	}
	var made []value.V
	var told []string
	for op := range takes {
		for range 100 {
			args := []value.V{list[p.below(len(list))], list[p.below(len(list))], list[p.below(len(list))]}
			n := takes[op]
			if n < 0 {
				n = p.below(4)
			}
			v, again := value.Apply(op, args[:n]...), value.Apply(op, args[:n]...)
			if value.Compare(v, again) != 0 || v.Show() != again.Show() {
				t.Errorf("%s gives %s, and then %s", op, v.Show(), again.Show())
			}
			made, told = append(made, v), append(told, v.Show())
		}
	}
	for i, v := range list {
		if v.Show() != shown[i] {
			t.Errorf("%s has become %s", shown[i], v.Show())
		}
	}
	for i, v := range made {
		if v.Show() != told[i] {
			t.Errorf("%s has become %s", told[i], v.Show())
		}
	}
}

// Two sequences that grow from one do not write into each other.
func TestP2GrownApart(t *testing.T) {
	trunk := value.Apply("seq", ints(5)...)
	for range 3 {
		a, b := value.Apply("append", trunk, read(t, "a")), value.Apply("append", trunk, read(t, "b"))
		c, d := value.Apply("append", value.Apply("tail", a), read(t, "c")), value.Apply("put", b, read(t, "1"), read(t, "d"))
		for want, v := range map[string]value.V{
			"<<1, 2, 3, 4, 5>>": trunk, "<<1, 2, 3, 4, 5, a>>": a, "<<1, 2, 3, 4, 5, b>>": b, "<<2, 3, 4, 5, a, c>>": c, "<<d, 2, 3, 4, 5, b>>": d,
		} {
			if v.Show() != want {
				t.Errorf("%s, want %s", v.Show(), want)
			}
		}
	}
}

func TestP4EmptyAndNilAreTheSame(t *testing.T) {
	for op := range takes {
		if a, b := value.Apply(op), value.Apply(op, []value.V{}...); value.Compare(a, b) != 0 {
			t.Errorf("%s of none: %s and %s", op, a.Show(), b.Show())
		}
	}
}
