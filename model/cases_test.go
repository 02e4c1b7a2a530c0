package model_test

import (
	"fmt"
	"strings"
	"testing"

	"sextant/few"
	"sextant/kinds"
	"sextant/model"
	"sextant/plain"
)

// cases writes what an expression hangs on that speaks of some variables: + or - where it is so or not, else the name of the variable that is asked, and its cases.
func cases(t *testing.T, m *model.Model, expr string, speaks few.Set) string {
	t.Helper()
	term, _, err := m.Ready(expr)
	if err != nil {
		t.Fatal(expr, err)
	}
	end := func(so bool) string {
		if so {
			return "+"
		}
		return "-"
	}
	return model.ByCases(term, speaks, end, func(of model.Slot, cases []string) string {
		name := m.Variables()[of.Variable]
		if of.Behind {
			name += "'"
		}
		return name + "(" + strings.Join(cases, "") + ")"
	})
}

func TestM3Cases(t *testing.T) {
	m := made(t, lamp)
	none, on, by, both := few.Set(0), few.Of(0), few.Of(1), few.Below(2)
	for _, row := range []struct {
		expr   string
		speaks few.Set
		want   string
	}{
		{"true", both, "+"}, {"nil", both, "-"}, {"1", both, "-"}, {"1 = 1", none, "+"}, {"on", on, "on(-+)"}, {"not on", on, "on(+-)"}, {"on'", on, "on(on'(-+)on'(-+))"}, {"by = nil", by, "by(+--)"}, {"by = nil", both, "on(by(+--)by(+--))"},
		{"on and by = left", both, "on(-by(-+-))"}, {"by = left and on", both, "on(-by(-+-))"}, {"on or on'", on, "on(on'(-+)+)"}, {"on' or on", on, "on(on'(-+)+)"}, {"unchanged on", on, "on(on'(+-)on'(-+))"},
		{"unchanged by", by, "by(by'(+--)by'(-+-)by'(--+))"}, {"by' = by or true", both, "+"}, {"some h in Hands : h = by", by, "by(-++)"}, {"Held", both, "on(+by(-++))"}, {"not on and on'", on, "on(on'(-+)-)"},
		{"Press", both, "on(by(on'(-by'(-++))on'(-by'(-++))on'(-by'(-++)))-)"},
	} {
		if got := cases(t, m, row.expr, row.speaks); got != row.want {
			t.Errorf("%s: %s, want %s", row.expr, got, row.want)
		}
	}
	if got := cases(t, made(t, "module M variable v in {7}"), "v = 7 and v' = 7", few.Of(0)); got != "v(v'(+))" {
		t.Errorf("one value: %s", got)
	}
	if got := cases(t, made(t, "module M"), "1 < 2", few.Below(64)); got != "+" {
		t.Errorf("no variables: %s", got)
	}
}

// chooser tells, by the places of the values of two states, what one of the cases does.
type chooser func(s, u []int) bool

func TestM3CasesRandom(t *testing.T) {
	m := made(t, world)
	r := newMaker(5)
	told := map[bool]int{}
	for range 500 {
		text := r.expr('b', 1+r.Intn(3))
		term, _, err := m.Ready(text)
		if err != nil {
			continue
		}
		end := func(so bool) chooser { return func(_, _ []int) bool { return so } }
		so := model.ByCases(term, few.Below(6), end, func(of model.Slot, cases []chooser) chooser {
			if want := m.Sizes()[of.Variable]; len(cases) != want {
				t.Fatalf("%s: %d cases of %d", text, len(cases), want)
			}
			return func(s, u []int) bool {
				if of.Behind {
					return cases[u[of.Variable]](s, u)
				}
				return cases[s[of.Variable]](s, u)
			}
		})
		for range 30 {
			s, u := r.Intn(m.Space()), r.Intn(m.Space())
			want := term.So(s, u)
			if got := so(m.Places(s), m.Places(u)); got != want {
				t.Fatalf("%s over %d and %d: %v", text, s, u, got)
			}
			told[want]++
		}
	}
	if told[true] < 1000 || told[false] < 1000 {
		t.Errorf("seldom: %v", told)
	}
}

func TestM2Sizes(t *testing.T) {
	m := made(t, "module M variable a in 0 .. 2 variable b in {true} variable c in {nil, 4, 7, 9}")
	same(t, "Sizes", m.Sizes(), 3, 1, 4)
	m.Sizes()[0] = 9
	same(t, "Sizes", m.Sizes(), 3, 1, 4)
	same(t, "Sizes of none", made(t, "module M").Sizes())
}

// All parts of an action together are the action.
func TestO1PartsTerms(t *testing.T) {
	m := made(t, lamp)
	for i, a := range m.EachAction() {
		var seen int
		for s := range m.Space() {
			for u := range m.Space() {
				so := true
				for _, p := range m.ActionParts(i) {
					so = so && p.Term.So(s, u)
				}
				if so != a.So(s, u) {
					t.Errorf("action %d over %d and %d: %v", i, s, u, so)
				}
				if so {
					seen++
				}
			}
		}
		if seen == 0 || len(m.ActionParts(i)) != 3 {
			t.Errorf("action %d: %d steps, %d parts", i, seen, len(m.ActionParts(i)))
		}
	}
}

func TestAsked(t *testing.T) {
	m := made(t, lamp)
	for _, row := range [][2]string{
		{"on", ""}, {"true", ""}, {"nil", ""}, {"Held", ""}, {"by = left", ""}, {"choose h in {} : true", ""},
		{"on and", "ErrSyntax at 6"}, {"on and of", "ErrName at 7"}, {"1 + on", "ErrKind at 2"}, {"on and {always on} = {}", "ErrLevel at 7"}, {strings.Repeat(" ", 1001), "ErrFull at 0"},
		{"all a in {} : all b in {} : all c in {} : all d in {} : by'", "ErrKind at 42"}, {"all a in {} : all b in {} : all c in {} : all d in {} : on'", "ErrFull at 0"},
		{"on'", "ErrLevel at 0"}, {" Press", "ErrLevel at 0"}, {"{by'}", "ErrLevel at 0"}, {"always on", "ErrLevel at 0"}, {" by", "ErrKind at 0"}, {"{}", "ErrKind at 0"}, {"1", "ErrKind at 0"},
	} {
		_, at, err := m.Asked(row[0])
		got := ""
		if err != nil {
			got = fmt.Sprint(plain.Told(err), " at ", at)
		}
		if got != row[1] || err == nil && at != 0 {
			t.Errorf("Asked(%q): %s at %d, want %s", row[0], got, at, row[1])
		}
	}
	term, _, _ := m.Asked("by = left")
	if !term.So(4, 4) || term.So(0, 0) {
		t.Error("what is asked is another")
	}
}

// A model tells the same of an expression as its module does, whatever was asked of it ahead.
func TestK5Kinds(t *testing.T) {
	m := made(t, lamp)
	for _, expr := range []string{
		"by", "{by'} union {}", "[a: 1]", `["a": 1, "b": {}]`, "on and always on", "{always on}", "fun h in Hands : 1 .. 2", "<<1>>[2 := nil]",
		"1 + on", "all by in Hands : true", "left", "len(1 -> 2)", "Goes", "", "on )", strings.Repeat(" ", 1001), "all a in {} : all b in {} : all c in {} : all d in {} : on",
		`{["a": <<by>>, "b": {{on}}]}`, `{["a": <<by>>, "b": {{1}}]}`, `{["a": <<by>>, "b": {{on}}]} = {["a": <<by>>, "b": {{1}}]}`,
	} {
		for range 2 {
			kind, level, at, err := m.Kind(expr)
			wantKind, wantLevel, wantAt, wantErr := kinds.Expr(lamp, expr)
			if kind != wantKind || level != wantLevel || at != wantAt || plain.Told(err) != plain.Told(wantErr) {
				t.Errorf("Kind(%q): %s, %d, %d, %v, want %s, %d, %d, %v", expr, kind, level, at, err, wantKind, wantLevel, wantAt, wantErr)
			}
		}
	}
}
