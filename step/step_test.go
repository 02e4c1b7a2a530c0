package step_test

import (
	"fmt"
	"math"
	"math/rand"
	"slices"
	"strings"
	"testing"

	"sextant/few"
	"sextant/model"
	"sextant/step"
)

const lamp = `module Lamp
atoms Hands = {left, right}
symmetric Hands
variable on in {false, true}
variable by in Hands union {nil}
init not on and by = nil
action Press == not on and on' = true and by' in Hands
action Go == on and on' = false and by' = nil
fair weak Go
invariant Held == on implies by in Hands
invariant Dark == not on
property Goes == always (on implies eventually not on)
property Rests == eventually always not on
`

func made(t *testing.T, text string) *model.Model {
	t.Helper()
	m, at, err := model.New(text)
	if err != nil {
		t.Fatalf("New(%q): %v at %d", text, err, at)
	}
	return m
}

// same holds lists against each other: an empty list and nil are the same.
func same(t *testing.T, what string, got []int, want ...int) {
	t.Helper()
	if !slices.Equal(got, want) {
		t.Errorf("%s: got %v, want %v", what, got, want)
	}
}

func TestExamples(t *testing.T) {
	m := made(t, lamp)
	same(t, "Initial", step.Initial(m), 0)
	same(t, "Next(0)", step.Next(m, 0), 4, 5)
	same(t, "Next(3)", step.Next(m, 3), 0)
	same(t, "Next(4)", step.Next(m, 4), 0)
	same(t, "By(1, 5)", step.By(m, 1, 5), 0)
	same(t, "Which(0, 4)", step.Which(m, 0, 4), 0)
	same(t, "By(2, 0)", step.By(m, 2, 0))
	same(t, "Next(6)", step.Next(m, 6))
}

func TestS1Initial(t *testing.T) {
	const head = "module M variable v in 0 .. 2 variable w in {false, true} define low == v < 2 define at(p) == v = p "
	for _, row := range []struct {
		text string
		want []int
	}{
		{"", []int{0, 1, 2, 3, 4, 5}}, {"init true", []int{0, 1, 2, 3, 4, 5}}, {"init false", nil}, {"init nil", nil}, {"init w", []int{1, 3, 5}}, {"init w init low", []int{1, 3}},
		{"init v = 1", []int{2, 3}}, {"init v = 1 init not w", []int{2}}, {"init v = 1 init v = 2", nil}, {"init w init true init at(2)", []int{5}}, {"init w = (v = 1)", []int{0, 3, 4}},
		{"invariant I == w init I", []int{1, 3, 5}}, {"init low action A == v' = 2", []int{0, 1, 2, 3}}, {"init some q in 1 .. 2 : v = q", []int{2, 3, 4, 5}}, {"init false init w", nil},
		{"init w init false", nil}, {"init if w then v = 0 else v = 2", []int{1, 4}}, {"init choose q in {w} : true", []int{1, 3, 5}}, {"init w implies low", []int{0, 1, 2, 3, 4}},
	} {
		same(t, row.text, step.Initial(made(t, head+row.text)), row.want...)
	}
	same(t, "no variables", step.Initial(made(t, "module M")), 0)
	same(t, "no variables", step.Initial(made(t, "module M init false")))
}

func TestS2Steps(t *testing.T) {
	m := made(t, `module M variable v in 0 .. 2 variable w in {false, true}
action Up == v' = v + 1 and unchanged w
action Flip == w' = (not w) and v' = v
action Any == v = 2
action Never == false
action Nothing == nil
action Either == v' = 0 and w' or v' = 2 and w' = w
action Some == some q in 0 .. 1 : v' = q and w' = (q = 1)
action Same == unchanged v and unchanged w
action Named == Up or Flip
action Pair == ["k": v', "m": w'] = ["k": 2, "m": w]`)
	by := [][][]int{
		{{2}, {3}, {4}, {5}, nil, nil},
		{{1}, {0}, {3}, {2}, {5}, {4}},
		{nil, nil, nil, nil, {0, 1, 2, 3, 4, 5}, {0, 1, 2, 3, 4, 5}},
		{nil, nil, nil, nil, nil, nil},
		{nil, nil, nil, nil, nil, nil},
		{{1, 4}, {1, 5}, {1, 4}, {1, 5}, {1, 4}, {1, 5}},
		{{0, 3}, {0, 3}, {0, 3}, {0, 3}, {0, 3}, {0, 3}},
		{{0}, {1}, {2}, {3}, {4}, {5}},
		{{1, 2}, {0, 3}, {3, 4}, {2, 5}, {5}, {4}},
		{{4}, {5}, {4}, {5}, {4}, {5}},
	}
	for a, rows := range by {
		for s, want := range rows {
			same(t, fmt.Sprintf("By(%d, %d)", a, s), step.By(m, a, s), want...)
		}
	}
	hold(t, m, by)
}

// hold looks whether Next and Which tell the same as By is to.
func hold(t *testing.T, m *model.Model, by [][][]int) {
	t.Helper()
	for s := range m.Space() {
		var next []int
		for u := range m.Space() {
			var which []int
			for a := range by {
				if slices.Contains(by[a][s], u) {
					which = append(which, a)
				}
			}
			if which != nil {
				next = append(next, u)
			}
			same(t, fmt.Sprintf("Which(%d, %d)", s, u), step.Which(m, s, u), which...)
		}
		same(t, fmt.Sprintf("Next(%d)", s), step.Next(m, s), next...)
	}
}

func TestS2NoSuchNumber(t *testing.T) {
	m := made(t, "module M variable v in 0 .. 2 action A == true action B == v' = v")
	for _, n := range []int{-1, 3, 4, math.MinInt, math.MaxInt} {
		same(t, "Next", step.Next(m, n))
		same(t, "By", step.By(m, 0, n))
		same(t, "Which", step.Which(m, n, 0))
		same(t, "Which", step.Which(m, 0, n))
		same(t, "Which", step.Which(m, n, n))
	}
	for _, n := range []int{-1, 2, 3, math.MinInt, math.MaxInt} {
		same(t, "By", step.By(m, n, 0))
		same(t, "By", step.By(m, n, -1))
	}
	same(t, "Next", step.Next(m, 2), 0, 1, 2)
	same(t, "Which", step.Which(m, 2, 2), 0, 1)
}

// An action is enabled where there is a state to which it goes.
func TestS2Enabled(t *testing.T) {
	m := made(t, "module M variable v in 0 .. 2 action A == v' = v + 1 action B == false action C == v = 2 action D == nil")
	for a := -1; a < 5; a++ {
		for s := -1; s < 4; s++ {
			if got, want := step.Enabled(m, a, s), a == 0 && (s == 0 || s == 1) || a == 2 && s == 2; got != want {
				t.Errorf("Enabled(%d, %d): got %v", a, s, got)
			}
		}
	}
	if step.Enabled(m, math.MaxInt, 0) || step.Enabled(m, 0, math.MinInt) {
		t.Error("what is not there is not enabled")
	}
}

func TestS2Among(t *testing.T) {
	m := made(t, "module M variable n in 0 .. 5 action A == n' = 4 action B == n' in {1, 4} action C == n < 1 and n' = 0 action D == n' < 0")
	for _, row := range []struct {
		actions few.Set
		want    []int
	}{{0, nil}, {few.Of(0), []int{4}}, {few.Of(1), []int{1, 4}}, {few.Of(2), []int{0}}, {few.Of(3), nil}, {few.Of(0) | few.Of(2), []int{0, 4}}, {few.Below(4), []int{0, 1, 4}}, {few.Below(64), []int{0, 1, 4}}, {few.Of(9), nil}} {
		same(t, fmt.Sprint("among ", row.actions.List()), step.Among(m, 0, row.actions), row.want...)
		same(t, "of no state", step.Among(m, 6, row.actions))
		same(t, "of no state", step.Among(m, -1, row.actions))
	}
	same(t, "elsewhere", step.Among(m, 1, few.Below(4)), 1, 4)
}

func TestS2NoActions(t *testing.T) {
	m := made(t, "module M variable v in 0 .. 1")
	same(t, "Next", step.Next(m, 0))
	same(t, "By", step.By(m, 0, 0))
	same(t, "Which", step.Which(m, 0, 0))
	m = made(t, "module M action A == true action B == false")
	same(t, "Next", step.Next(m, 0), 0)
	same(t, "By", step.By(m, 0, 0), 0)
	same(t, "By", step.By(m, 1, 0))
	same(t, "Which", step.Which(m, 0, 0), 0)
}

const small = `module Small
atoms A = {x, y}
variable v in 0 .. 2
variable w in {false, true}
variable a in A union {nil}
variable l in {1}
define next(p) == v' = p
define let2(p, o) == let e = p : o implies e = a'
`

// maker makes bools over Small at random, which speak of a step or of a state.
type maker struct {
	*rand.Rand
	names int
}

func (m *maker) pick(of ...string) string {
	return of[m.Intn(len(of))]
}

func (m *maker) bool(deep int, bound, ticked string) string {
	if deep == 0 {
		of := []string{"true", "false", "nil", "w", "w", "v = 1", "a = nil", "a in A"}
		if ticked != "" {
			of = append(of, "w'", "unchanged v", "unchanged w", "unchanged a", "next(1)", "let2(x, w)", "v' = v", "v' = 0", "v' = (v + 1) % 3", "a' = a", "a' = x", "w' = w", "v' in {0, 1}", "a' in A", "v' < v", "l' = l", "[\"k\": v', \"m\": a'] = [\"k\": v, \"m\": a]")
		}
		if bound != "" {
			of = append(of, "v"+ticked+" = "+bound, "v = "+bound, bound+" > 0", "w"+ticked+" = ("+bound+" = 1)")
		}
		return m.pick(of...)
	}
	part := func() string { return m.bool(deep-1, bound, ticked) }
	switch m.Intn(11) {
	case 0, 1, 2:
		return "(" + part() + ") and (" + part() + ")"
	case 3:
		return "(" + part() + ") or (" + part() + ")"
	case 4:
		return "(" + part() + ") implies (" + part() + ")"
	case 5:
		return "not (" + part() + ")"
	case 6:
		return "(" + part() + ") iff (" + part() + ")"
	case 7:
		return "if " + part() + " then " + part() + " else " + part()
	case 8:
		if ticked == "" {
			return part()
		}
		return "let2(if " + part() + " then x else y, " + part() + ")"
	}
	m.names++
	name := fmt.Sprint("z", m.names)
	inner := m.bool(deep-1, name, ticked)
	set := m.pick("0 .. 2", "{1}", "{v}", "{v"+ticked+"}", "{}", "nil", "{v"+ticked+", 1}", "{those z in 0 .. 2 : z >= v"+ticked+"}", "values(fun z in 0 .. 2 : z * v"+ticked+")",
		"{those z in {v"+ticked+", 0} : z > 0}", "{each z in 0 .. v"+ticked+" : 2 - z}", "domain (fun z in {v"+ticked+"} : z)")
	switch m.Intn(4) {
	case 0:
		return fmt.Sprintf("all %s in %s : %s", name, set, inner)
	case 1:
		return fmt.Sprintf("some %s in %s : %s", name, set, inner)
	case 2:
		return fmt.Sprintf("let %s = v%s : %s", name, ticked, inner)
	}
	return fmt.Sprintf("(choose %s in %s : %s) /= nil", name, set, inner)
}

// Where actions go is told by what they come to over each two states.
func TestS2AllStates(t *testing.T) {
	m := &maker{Rand: rand.New(rand.NewSource(1))}
	steps := 0
	for round := range 150 {
		text := small
		for i := range 3 {
			text += fmt.Sprintf("action A%d == %s\n", i, m.bool(2+m.Intn(2), "", "'"))
		}
		text += fmt.Sprintf("init %s\ninit %s\n", m.bool(2, "", ""), m.bool(1+round%2, "", ""))
		model, at, err := model.New(text)
		if err != nil {
			if strings.Contains(err.Error(), "ErrFull") {
				continue
			}
			t.Fatalf("%s: %v at %d", text, err, at)
		}
		by := make([][][]int, 3)
		for a := range by {
			by[a] = make([][]int, model.Space())
			for s := range by[a] {
				for u := range model.Space() {
					if got, _, err := model.Eval(fmt.Sprint("A", a), s, u); err != nil {
						t.Fatal(err)
					} else if got == "true" {
						by[a][s] = append(by[a][s], u)
						steps++
					}
				}
				same(t, fmt.Sprintf("%s: By(%d, %d)", text, a, s), step.By(model, a, s), by[a][s]...)
			}
		}
		hold(t, model, by)
		looksInitial(t, text, model)
	}
	if steps < 10000 {
		t.Errorf("only %d steps", steps)
	}
}

// looksInitial holds Initial against what the two init of a text come to.
func looksInitial(t *testing.T, text string, m *model.Model) {
	t.Helper()
	lines := strings.Split(text, "\n")
	var want []int
	for s := range m.Space() {
		so := 0
		for _, l := range lines {
			if init, is := strings.CutPrefix(l, "init "); is {
				if got, _, err := m.Eval(init, s, s); err == nil && got == "true" {
					so++
				}
			}
		}
		if so == 2 {
			want = append(want, s)
		}
	}
	same(t, text+": Initial", step.Initial(m), want...)
}

// What comes out is the caller's.
func TestP2Fresh(t *testing.T) {
	m := made(t, lamp)
	for range 2 {
		for i, list := range [][]int{step.Initial(m), step.Next(m, 0), step.By(m, 0, 0), step.Which(m, 0, 4)} {
			same(t, "fresh", list, [][]int{{0}, {4, 5}, {4, 5}, {0}}[i]...)
			for j := range list {
				list[j] = -1
			}
		}
	}
}
