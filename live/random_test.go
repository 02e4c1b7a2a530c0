package live_test

import (
	"fmt"
	"math/rand"
	"slices"
	"strings"
	"testing"

	"sextant/api"
	"sextant/model"
	"sextant/step"
	"sextant/trace"
)

// maker makes modules over states 0 .. size - 1, and properties of them, at random.
type maker struct {
	*rand.Rand
	size, actions int
}

func (m *maker) set(rare int) string {
	var list []string
	for s := range m.size {
		if m.Intn(rare) == 0 {
			list = append(list, fmt.Sprint(s))
		}
	}
	return "{" + strings.Join(list, ", ") + "}"
}

func (m *maker) module(rare int) string {
	text := fmt.Sprintf("module Drawing\nvariable n in 0 .. %d\ninit n in %s\n", m.size-1, m.set(2))
	for a := range m.actions {
		parts := []string{"false"}
		for s := range m.size {
			if to := m.set(rare); to != "{}" {
				parts = append(parts, fmt.Sprintf("n = %d and n' in %s", s, to))
			}
		}
		text += fmt.Sprintf("action A%d == %s\n", a, strings.Join(parts, " or "))
		if how := m.Intn(4); how > 1 {
			text += fmt.Sprintf("fair %s A%d\n", []string{"weak", "strong"}[how-2], a)
		}
	}
	return text
}

// formula makes one with at most so many signs of time.
func (m *maker) formula(deep, signs int) string {
	if deep == 0 {
		switch m.Intn(8) {
		case 0:
			return fmt.Sprint("enabled A", m.Intn(m.actions))
		case 1:
			return fmt.Sprint("A", m.Intn(m.actions))
		case 2:
			return "(n' in " + m.set(2) + ")"
		case 3:
			return "(n' = n)"
		}
		return "(n in " + m.set(2) + ")"
	}
	part := func(less int) string { return "(" + m.formula(deep-1, (signs-less)/2) + ")" }
	if signs < 2 || m.Intn(3) == 0 {
		switch m.Intn(5) {
		case 0:
			return "not " + part(0)
		case 1:
			return part(0) + " and " + part(0)
		case 2:
			return part(0) + " or " + part(0)
		case 3:
			return part(0) + " implies " + part(0)
		}
		return part(0) + " iff " + part(0)
	}
	one := "(" + m.formula(deep-1, signs-1) + ")"
	switch m.Intn(6) {
	case 0, 1:
		return "always " + one
	case 2, 3:
		return "eventually " + one
	case 4:
		return part(1) + " until " + part(1)
	}
	return part(2) + " leadsto " + part(2)
}

// lassos goes through all ways without an end that are told by so many states at most.
func lassos(m *model.Model, size int, yield func(states []int, loop int)) {
	ways := [][]int{}
	for _, s := range step.Initial(m) {
		ways = append(ways, []int{s})
	}
	for len(ways) > 0 {
		w := ways[0]
		ways = ways[1:]
		last := w[len(w)-1]
		next := step.Next(m, last)
		if next == nil {
			next = []int{last}
		}
		for _, t := range next {
			for loop, s := range w {
				if s == t {
					yield(w, loop)
				}
			}
			if len(w) < size {
				ways = append(ways, append(slices.Clone(w), t))
			}
		}
	}
}

// What holds is so on all fair ways that a few states tell; what does not is shown not to.
func TestL1Random(t *testing.T) {
	r := rand.New(rand.NewSource(1))
	found := map[string]int{}
	for range 500 {
		m := &maker{r, 1 + r.Intn(4), 1 + r.Intn(3)}
		text := m.module(2 + r.Intn(3))
		var formulas []string
		for i := range 4 {
			formulas = append(formulas, m.formula(1+m.Intn(4), 6))
			text += fmt.Sprintf("property P%d == %s\n", i, formulas[i])
		}
		model, at, err := model.New(text)
		if err != nil {
			t.Fatalf("%s: %v at %d", text, err, at)
		}
		for i, f := range formulas {
			name := fmt.Sprint("P", i)
			if a := check(t, model, name); !a.Holds {
				found["fails"]++
				found[fmt.Sprint("length ", min(len(a.Trace), 6))]++
				continue
			}
			found["holds"]++
			size := 7
			if m.size > 2 {
				size = 5
			}
			lassos(model, size, func(states []int, loop int) {
				if trace.Breaks(model, name, api.Answer{Trace: states, Loop: loop}) {
					t.Fatalf("%s: %s holds, but for %v, back to %d", text, f, states, loop)
				}
				found["looked at"]++
			})
		}
	}
	for what, least := range map[string]int{"fails": 500, "holds": 500, "looked at": 10000, "length 1": 20, "length 2": 50, "length 3": 50, "length 4": 50, "length 5": 20, "length 6": 5} {
		if found[what] < least {
			t.Errorf("%s: seldom: %v", what, found)
		}
	}
}

// Where there is a way at all, there is a fair one: so of a property and its contrary one does not hold.
func TestL1Contraries(t *testing.T) {
	r := rand.New(rand.NewSource(2))
	found := map[string]int{}
	for range 300 {
		m := &maker{r, 2 + r.Intn(13), 1 + r.Intn(4)}
		text := m.module(1 + m.size/2 + r.Intn(m.size))
		f := m.formula(2+m.Intn(3), 6)
		text += fmt.Sprintf("property P == %s\nproperty N == not (%s)\n", f, f)
		model := made(t, text)
		p, n := check(t, model, "P"), check(t, model, "N")
		if none := len(step.Initial(model)) == 0; p.Holds && n.Holds != none {
			t.Errorf("%s: P %+v, N %+v", text, p, n)
		}
		found[fmt.Sprint(p.Holds, " ", n.Holds)]++
	}
	if found["true false"] < 10 || found["false true"] < 10 || found["false false"] < 10 {
		t.Errorf("seldom: %v", found)
	}
}

// relation is which states lead to which.
type relation [][]int

// within gives which states lead to which, by one step or more, through states that may be come to alone.
func within(m *model.Model, may func(int) bool) relation {
	leads := make(relation, m.Space())
	for s := range leads {
		leads[s] = make([]int, m.Space())
		next := step.Next(m, s)
		if next == nil {
			next = []int{s}
		}
		for _, t := range next {
			if may(s) && may(t) {
				leads[s][t] = 1
			}
		}
	}
	for k := range leads {
		for s := range leads {
			for t := range leads {
				leads[s][t] |= leads[s][k] & leads[k][t]
			}
		}
	}
	return leads
}

// to tells whether one of some states is one that is wanted, or leads to one.
func (r relation) to(from []int, wanted func(int) bool) bool {
	for s := range r {
		if wanted(s) && slices.ContainsFunc(from, func(f int) bool { return f == s || r[f][s] == 1 }) {
			return true
		}
	}
	return false
}

// Where nothing is fair, what plain properties come to is told by which states lead to which.
func TestL1Plain(t *testing.T) {
	r := rand.New(rand.NewSource(3))
	found := map[string]int{}
	for range 300 {
		m := &maker{r, 2 + r.Intn(12), 1 + r.Intn(2)}
		text := strings.ReplaceAll(m.module(m.size/2+r.Intn(m.size)), "fair", "action B == false fair")
		text = text[:strings.Index(text+"action B", "action B")] // nothing behind the first one that is fair
		in := m.set(1 + m.Intn(3))
		out := m.set(1 + m.Intn(3))
		text += fmt.Sprintf("define p == n in %s\ndefine q == n in %s\n", in, out)
		for i, f := range []string{"always p", "eventually p", "always eventually p", "eventually always p", "p leadsto q", "p until q"} {
			text += fmt.Sprintf("property P%d == %s\n", i, f)
		}
		model := made(t, text)
		so := func(of string) func(int) bool {
			return func(s int) bool { got, _, _ := model.Eval(of, s, s); return got == "true" }
		}
		isNot := func(of string) func(int) bool { return func(s int) bool { return !so(of)(s) } }
		initial := step.Initial(model)
		all, noP, noQ := within(model, func(int) bool { return true }), within(model, isNot("p")), within(model, isNot("q"))
		round := func(r relation) func(int) bool { return func(s int) bool { return r[s][s] == 1 } }
		stays := func(r relation) func(int) bool { return func(s int) bool { return r.to([]int{s}, round(r)) } }
		broken := []bool{
			all.to(initial, isNot("p")),
			slices.ContainsFunc(initial, stays(noP)),
			all.to(initial, round(noP)),
			all.to(initial, func(s int) bool { return !so("p")(s) && round(all)(s) }),
			all.to(initial, func(s int) bool { return so("p")(s) && stays(noQ)(s) }),
			slices.ContainsFunc(initial, func(s int) bool {
				return !so("q")(s) && !so("p")(s) || stays(noQ)(s) || noQ.to([]int{s}, func(t int) bool { return !so("q")(s) && !so("q")(t) && !so("p")(t) })
			}),
		}
		for i, want := range broken {
			if got := check(t, model, fmt.Sprint("P", i)); got.Holds == want {
				t.Fatalf("%s: P%d: got %+v", text, i, got)
			}
			found[fmt.Sprint(i, want)]++
		}
	}
	for i := range 6 {
		if found[fmt.Sprint(i, true)] < 20 || found[fmt.Sprint(i, false)] < 20 {
			t.Errorf("P%d: seldom: %v", i, found)
		}
	}
}
