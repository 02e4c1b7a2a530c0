package model_test

import (
	"fmt"
	"strings"
	"testing"

	"sextant/model"
	"sextant/plain"
	"sextant/value"
)

const timely = lamp + `action Wait == unchanged on and unchanged by
fair strong Press
fair weak Press
property Asks == enabled Wait or on leadsto enabled Go
property Two == on and on' implies Go
`

// written is a formula as text, of which what two states are enough for is what it comes to over 0 and 4.
func written(f model.Formula) string {
	switch f.Op {
	case "":
		return f.Term.Over(0, 4).Show()
	case "enabled":
		return fmt.Sprint("enabled ", f.Action)
	}
	var parts []string
	for _, p := range f.Parts {
		parts = append(parts, written(p))
	}
	return f.Op + "(" + strings.Join(parts, ", ") + ")"
}

// What stands below time stays whole; leadsto is two signs.
func TestT4Formulas(t *testing.T) {
	m := made(t, timely)
	for _, row := range [][2]string{
		{"on", "false"}, {"on'", "true"}, {"not on and on' or by = nil", "true"}, {"enabled Go", "enabled 1"}, {"enabled Press", "enabled 0"}, {"not enabled Wait", "not(enabled 2)"},
		{"always on", "always(false)"}, {"eventually (on iff on')", "eventually(false)"}, {"on until on'", "until(false, true)"}, {"on leadsto on'", "always(implies(false, eventually(true)))"},
		{"on and on and always on'", "and(false, always(true))"}, {"on or (enabled Go iff on')", "or(false, iff(enabled 1, true))"}, {"(on implies on) implies not not eventually on", "implies(true, not(not(eventually(false))))"},
	} {
		f, at, err := m.Formula(row[0])
		if got := written(f); got != row[1] || at != 0 || err != nil {
			t.Errorf("Formula(%q): got %s, %d, %v, want %s", row[0], got, at, err, row[1])
		}
	}
}

func TestT4FormulasFaults(t *testing.T) {
	m := made(t, timely)
	for _, row := range []struct {
		expr, err string
		at        int
	}{{"on and", "ErrSyntax", 6}, {"always off", "ErrName", 7}, {"{enabled Go}", "ErrLevel", 0}, {"always 1", "ErrKind", 0}, {strings.Repeat(" ", 1001), "ErrFull", 0}} {
		f, at, err := m.Formula(row.expr)
		if at != row.at || plain.Told(err).Error() != row.err || f.Op != "" || f.Parts != nil {
			t.Errorf("Formula(%q): got %v, %v at %d, want %s at %d", row.expr, f, err, at, row.err, row.at)
		}
	}
}

func TestPropertiesAndInvariants(t *testing.T) {
	m := made(t, timely)
	for _, row := range [][2]string{{"Goes", "always(implies(false, eventually(true)))"}, {"Rests", "eventually(always(true))"}, {"Asks", "always(implies(or(enabled 2, false), eventually(enabled 1)))"}, {"Two", "true"}} {
		for range 2 {
			f, ok := m.Property(row[0])
			if got := written(f); got != row[1] || !ok {
				t.Errorf("Property(%s): got %s, %v, want %s", row[0], got, ok, row[1])
			}
			for i := range f.Parts {
				f.Parts[i] = model.Formula{Op: "enabled"} // what comes out is the caller's
			}
		}
	}
	for _, name := range []string{"", "Held", "Go", "on", "goes"} {
		if _, ok := m.Property(name); ok {
			t.Errorf("%q is no property", name)
		}
	}
	for _, name := range []string{"", "Goes", "Go", "on", "held"} {
		if _, ok := m.Invariant(name); ok {
			t.Errorf("%q is no invariant", name)
		}
	}
	dark, one := m.Invariant("Dark")
	held, two := m.Invariant("Held")
	if !one || !two || !dark.So(0, 0) || dark.So(4, 4) || !held.So(4, 4) || held.So(3, 3) {
		t.Error("the invariants are others")
	}
}

// A name that is declared behind a property may be bound in it.
func TestPropertyBinds(t *testing.T) {
	m := made(t, "module M variable v in 0 .. 1 property P == some later in 1 .. 1 : later = 1 constant later = 7")
	if f, ok := m.Property("P"); !ok || !f.Term.So(0, 0) {
		t.Errorf("got %v, %v", f, ok)
	}
}

func TestEachFair(t *testing.T) {
	told := func(m *model.Model, most int) string {
		text := ""
		for action, strong := range m.EachFair() {
			text += fmt.Sprint(action, strong, " ")
			if most--; most == 0 {
				break
			}
		}
		return text
	}
	m := made(t, timely)
	if got := told(m, 9); got != "1 false 0 true 0 false " {
		t.Errorf("got %s", got)
	}
	if got := told(m, 1); got != "1 false " {
		t.Errorf("got %s", got)
	}
	if got := told(made(t, "module M action A == true"), 9); got != "" {
		t.Errorf("got %s", got)
	}
}

func TestM2Places(t *testing.T) {
	m := made(t, "module M variable a in 0 .. 2 variable b in {true} variable c in {nil, 4, 7, 9}")
	for s := range m.Space() {
		places := m.Places(s)
		same(t, fmt.Sprint("Places of ", s), places, s/4, 0, s%4)
		if got := m.At(places); got != s {
			t.Errorf("At(%v): got %d", places, got)
		}
	}
	if bare := made(t, "module M"); len(bare.Places(0)) != 0 || bare.At(nil) != 0 {
		t.Error("a module without variables has a state without places")
	}
}

// What is so whichever state comes behind is known without one; what hangs on it is not.
func TestM3Now(t *testing.T) {
	m := made(t, lamp)
	for _, row := range []struct {
		expr     string
		so, sure bool // over 4
	}{
		{"on", true, true}, {"not on", false, true}, {"by = nil", false, true}, {"nil", false, true}, {"1", false, true}, {"on'", false, false}, {"unchanged by", false, false}, {"on and on'", false, false},
		{"not on and on'", false, true}, {"on or on'", true, true}, {"on' or on", true, true}, {"on' and false", false, true}, {"on' iff on'", false, false}, {"Press", false, true}, {"Go", false, false}, {"some h in Hands : by = h", true, true},
	} {
		term, _, err := m.Ready(row.expr)
		if err != nil {
			t.Fatal(row.expr, err)
		}
		if so, sure := term.Now(4); so != row.so || sure != row.sure {
			t.Errorf("%s: got %v, %v", row.expr, so, sure)
		}
	}
}

func TestM3NowRandom(t *testing.T) {
	m := made(t, world)
	r := newMaker(3)
	found := map[string]int{}
	for range 2000 {
		text := r.expr('b', 1+r.Intn(3))
		term, _, err := m.Ready(text)
		if err != nil {
			continue
		}
		s := r.Intn(m.Space())
		so, sure := term.Now(s)
		for u := range m.Space() {
			if sure && term.So(s, u) != so || so && !sure {
				t.Fatalf("%s: Now(%d): got %v, %v; not so over %d", text, s, so, sure, u)
			}
		}
		found[fmt.Sprint(so, sure)]++
	}
	if found["true true"] < 100 || found["false true"] < 100 || found["false false"] < 100 {
		t.Errorf("seldom: %v", found)
	}
}

func TestM2Place(t *testing.T) {
	m := made(t, "module M atoms A = {x} variable a in {0} variable b in {nil, 4, 7} variable c in {nil, x}")
	for _, c := range []struct {
		variable, place int // -1: none
		text            string
	}{{0, 0, "0"}, {1, 0, "nil"}, {1, 1, "4"}, {1, 2, "7"}, {2, 1, "x"}, {0, -1, "1"}, {0, -1, "nil"}, {1, -1, "5"}, {1, -1, "8"}, {2, -1, "y"}, {2, -1, "\"x\""}, {2, -1, "{x}"}} {
		v, _, err := value.Read(c.text)
		if err != nil {
			t.Fatal(c.text, err)
		}
		if place, ok := m.Place(c.variable, v); ok != (c.place >= 0) || ok && place != c.place {
			t.Errorf("Place(%d, %s): got %d, %v", c.variable, c.text, place, ok)
		}
	}
}
