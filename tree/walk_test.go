package tree_test

import (
	"testing"

	"sextant/form"
	"sextant/tree"
)

func TestAll(t *testing.T) {
	e, _, err := form.ReadExpr("f(a, {b, c}) + (let d = g : h)")
	if err != nil {
		t.Fatal(err)
	}
	names := ""
	for p := range e.All() {
		names += p.Op + p.Name + " "
	}
	if names != "+ f a set b c d g h " {
		t.Errorf("got %s", names)
	}
}

// Whoever asks for no more gets no more.
func TestAllStops(t *testing.T) {
	e, _, err := form.ReadExpr("{{a, b}, c}")
	if err != nil {
		t.Fatal(err)
	}
	seen := 0
	for p := range e.All() {
		seen++
		if p.Sort == tree.Name {
			break
		}
	}
	if seen != 3 {
		t.Errorf("got %d", seen)
	}
}
