package model_test

import (
	"fmt"
	"testing"

	"sextant/model"
)

// parts writes each part as the variables that it speaks of, with a stroke behind one that keeps.
func parts(list []model.Part) string {
	text := ""
	for _, p := range list {
		text += fmt.Sprint(p.Speaks.List())
		if p.Keeps {
			text += "-"
		}
	}
	return text
}

func TestO1Parts(t *testing.T) {
	m, _, err := model.New("module M variable a in 0 .. 1 variable b in 0 .. 1 define D(p) == p = a and unchanged b action A == (a = b' and (unchanged a)) and D(1) action B == A or unchanged a invariant I == a = 0 and (let c = 1 : c = 1) variable c in 0 .. 1 action C == unchanged c invariant J == I and c = 0")
	if err != nil {
		t.Fatal(err)
	}
	for i, want := range []string{"[0 1][0]-[0 1]", "[0 1]", "[2]-"} {
		if got := parts(m.ActionParts(i)); got != want {
			t.Errorf("action %d: got %s, want %s", i, got, want)
		}
	}
	for name, want := range map[string]string{"I": "[0][]", "J": "[0][2]", "A": "", "": ""} {
		if got := parts(m.InvariantParts(name)); got != want {
			t.Errorf("invariant %q: got %s, want %s", name, got, want)
		}
	}
	if m.ActionParts(-1) != nil || m.ActionParts(3) != nil {
		t.Error("there are parts of no action")
	}
}

// What comes out is the caller's.
func TestP2Parts(t *testing.T) {
	m, _, err := model.New("module M variable a in 0 .. 1 action A == unchanged a invariant I == a = 0")
	if err != nil {
		t.Fatal(err)
	}
	m.ActionParts(0)[0] = model.Part{}
	m.InvariantParts("I")[0] = model.Part{}
	if got := parts(m.ActionParts(0)) + parts(m.InvariantParts("I")); got != "[0]-[0]" {
		t.Errorf("got %s", got)
	}
}
