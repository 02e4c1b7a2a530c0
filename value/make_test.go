package value_test

import (
	"testing"

	"sextant/value"
)

func TestMade(t *testing.T) {
	for want, v := range map[string]value.V{"true": value.Bool(true), "false": value.Bool(false), "-3": value.Int(-3), `"a b"`: value.Text("a b"), "left": value.Atom("left")} {
		if v.Show() != want || value.Compare(v, read(t, want)) != 0 || v.So() != (want == "true") {
			t.Errorf("got %s, want %s", v.Show(), want)
		}
	}
}

func TestElements(t *testing.T) {
	elements, ok := read(t, "{3, 1, {}, 2}").Elements()
	if !ok {
		t.Fatal("it is a set")
	}
	shown := ""
	for e := range elements {
		shown += e.Show() + " "
	}
	if shown != "1 2 3 {} " {
		t.Errorf("got %s", shown)
	}
	for _, text := range []string{"nil", "1", "a", "<<>>", "[a: 1]"} {
		if _, ok := read(t, text).Elements(); ok {
			t.Errorf("%s is no set", text)
		}
	}
}

// Operator does what Apply does, each time, and keeps nothing of what it is handed.
func TestOperator(t *testing.T) {
	list := []value.V{read(t, "1"), read(t, "2")}
	for _, op := range []string{"seq", "set", "fun", "+", "=", "..", "not", "zz"} {
		does, want := value.Operator(op, 2), value.Apply(op, list...).Show()
		first := does(list)
		list[0], list[1] = list[1], list[0]
		does(list)
		list[0], list[1] = list[1], list[0]
		if first.Show() != want || does(list).Show() != want {
			t.Errorf("%s: got %s, want %s", op, first.Show(), want)
		}
	}
}
