package model_test

import (
	"fmt"
	"testing"
)

func TestSymmetric(t *testing.T) {
	for text, want := range map[string]string{
		"module M":                  "[]",
		"module M atoms A = {x, y}": "[]",
		lamp:                        "[[left right]]",
		"module M atoms A = {z, x, y} symmetric A":                                            "[[z x y]]",
		"module M atoms A = {b, a} atoms B = {c} atoms C = {e, d} symmetric C symmetric A":    "[[e d] [b a]]",
		"module M atoms A = {b, a} symmetric A variable v in A atoms B = {c} symmetric B":     "[[b a] [c]]",
		"module M atoms A = {b, a} atoms B = {c} variable v in A action Go == true init true": "[]",
	} {
		m := made(t, text)
		for range 2 {
			got := m.Symmetric()
			if fmt.Sprint(got) != want {
				t.Errorf("%s: got %v, want %s", text, got, want)
			}
			for _, atoms := range got {
				clear(atoms)
			}
			clear(got)
		}
	}
}

// What is exchanged is the atoms that are said to be, and nothing else; a state stays where it has none of them.
func TestExchange(t *testing.T) {
	m := made(t, `module M atoms A = {x, y} atoms B = {k, l} symmetric A variable v in {each a in A : ["x": a, "y": "y"]} variable w in B variable f in A -> 0 .. 1`)
	turned := m.Exchange(func(atom string) string {
		if atom == "x" {
			return "y"
		}
		if atom == "y" {
			return "x"
		}
		return atom
	})
	for n := range m.Space() {
		was, is := m.State(n), m.State(turned(n))
		want := []string{map[string]string{`["x": x, "y": "y"]`: `["x": y, "y": "y"]`, `["x": y, "y": "y"]`: `["x": x, "y": "y"]`}[was[0]], was[1], map[string]string{"[x: 0, y: 1]": "[x: 1, y: 0]", "[x: 1, y: 0]": "[x: 0, y: 1]"}[was[2]]}
		if want[2] == "" {
			want[2] = was[2]
		}
		if fmt.Sprint(is) != fmt.Sprint(want) {
			t.Errorf("%v: got %v, want %v", was, is, want)
		}
	}
}
