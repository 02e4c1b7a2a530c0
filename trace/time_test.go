package trace_test

import (
	"fmt"
	"math"
	"math/rand"
	"slices"
	"strings"
	"testing"

	"sextant/api"
	"sextant/model"
	"sextant/plain"
	"sextant/step"
	"sextant/trace"
)

// steps has actions that are enabled here and there, go here and there, and are fair in each manner.
const steps = `module Steps
variable n in 0 .. 3
variable b in {false, true}
init n = 0
action Up == n' = n + 1 and unchanged b
fair weak Up
action Down == n > 0 and n' = 0 and b' = (not b)
action Flip == b' = (not b) and n' = n
fair strong Flip
action Low == b and n' = 1 and b'
fair strong Low
fair weak Low
action Never == false
fair weak Never
fair strong Never
invariant Small == n < 3
invariant True == true
invariant Nil == nil
invariant Odd == n in {0, 1, 3} implies not b
property Reach == eventually n = 3
property Again == (always eventually n = 0) and not eventually always b
property Stays == always (n = 1 implies n = 1 until n = 2)
property Leads == n = 2 leadsto n = 3
property Asks == always (enabled Down iff n > 0)
property Steps == always (n' >= n or b' /= b)
property Now == n = 0
property Not == nil
`

// toldMeans is what Means answers, in one text.
func toldMeans(m *model.Model, formula string, states []int, loop int) string {
	is, at, err := trace.Means(m, formula, states, loop)
	if err != nil {
		return fmt.Sprintf("%v, %v at %d", is, plain.Told(err), at)
	}
	if at != 0 {
		return fmt.Sprintf("%v, at %d", is, at)
	}
	return fmt.Sprint(is)
}

func means(t *testing.T, m *model.Model, states []int, loop int, pairs ...string) {
	t.Helper()
	for i := 0; i < len(pairs); i += 2 {
		if got := toldMeans(m, pairs[i], states, loop); got != pairs[i+1] {
			t.Errorf("Means(%q, %v, %d): got %s, want %s", pairs[i], states, loop, got, pairs[i+1])
		}
	}
}

func TestT4Examples(t *testing.T) {
	means(t, made(t, lamp), []int{0, 4}, 0, "on until by = nil", "true", "always eventually on", "true", "eventually always on", "false", "always (on implies enabled Go)", "true")
}

func TestT4Signs(t *testing.T) {
	m := made(t, "module M variable n in 0 .. 9 action A == n = 4 and n' = 9 action B == n' = n + 1")
	// The places are 0, 1, 2, 3, 4, then 2, 3, 4 again and again.
	means(t, m, []int{0, 1, 2, 3, 4}, 2,
		"always n < 5", "true", "always n < 4", "false", "always n >= 0", "true", "always n > 0", "false", "eventually n = 0", "true", "eventually n = 4", "true", "eventually n = 5", "false",
		"eventually always n > 1", "true", "eventually always n > 2", "false", "always eventually n = 2", "true", "always eventually n = 1", "false", "always eventually n = 4", "true",
		"n < 3 until n = 3", "true", "n < 2 until n = 3", "false", "n < 9 until n = 9", "false", "false until n = 0", "true", "false until n = 1", "false", "true until n = 4", "true",
		"always (n /= 3 until n = 3)", "true", "always (n /= 1 until n = 1)", "false", "eventually (n >= 2 and (n /= 2 until n = 2))", "true", "always (n > 2 until n = 2)", "false",
		"n = 4 leadsto n = 2", "true", "n = 2 leadsto n = 0", "false", "n = 2 leadsto n = 2", "true", "n = 0 leadsto n = 1", "true", "n = 1 leadsto n = 0", "false", "n = 9 leadsto false", "true", "true leadsto n = 3", "true",
		"always (n = 4 implies eventually n = 2)", "true", "not always n < 4", "true", "not eventually n = 5", "true", "(always n < 5) and eventually n = 4", "true", "(always n < 5) and always n < 4", "false",
		"(always n < 4) or eventually n = 4", "true", "(always n < 4) or always n < 3", "false", "(always n < 4) implies always n < 3", "true", "(always n < 5) implies always n < 3", "false",
		"(always n < 4) iff always n < 3", "true", "(always n < 4) iff always n < 5", "false", "always (n' = n + 1 or n' = 2)", "true", "always n' = n + 1", "false", "eventually (n = 4 and n' = 2)", "true",
		"eventually (n = 4 and n' = 0)", "false", "always (B iff n < 4)", "true", "n' = 1", "true", "enabled A", "false", "enabled B", "true", "eventually enabled A", "true", "eventually A", "false",
		"always (enabled A iff n = 4)", "true", "always enabled B", "true", "not enabled A and n = 0", "true", "n = 0", "true", "n = 1", "false")
	means(t, m, []int{0, 1, 2}, 2, "eventually always n = 2", "true", "always (n = 2 implies always n = 2)", "true", "eventually unchanged n", "true", "n < 2 until always n = 2", "true")
	means(t, m, []int{5}, 0, "always n = 5", "true", "unchanged n", "true", "n until n", "false, ErrKind at 2", "n = 5 until n = 6", "false")
}

// At a place what is not true is not so, whatever else it is.
func TestT4NotSo(t *testing.T) {
	m := made(t, lamp)
	means(t, m, []int{0}, 0, "nil", "false", "not nil", "true", "1", "false", "by", "false", "{on}", "false", "always nil", "false", "not always nil", "true", "nil iff eventually nil", "true", "nil or always true", "true",
		"true and eventually nil", "false", "nil implies always nil", "true", "nil until true", "true", "true until nil", "false", "nil leadsto nil", "true", "left", "false", "on' = on", "true")
}

// Whatever stands in the module may be spoken of, but properties.
func TestT4Names(t *testing.T) {
	m := made(t, `module M atoms A = {x, y} symmetric A constant c = 2 variable n in 0 .. 3 variable a in A define low == n < c define under(p) == n < p define next(p) == n' = p
action Up == n' = n + 1 and unchanged a invariant I == n >= 0 property P == always low`)
	means(t, m, []int{0, 2, 4}, 0, "always under(3)", "true", "always low", "false", "eventually not low", "true", "always I", "true", "Up", "true", "always Up", "false", "eventually next(0)", "true",
		"x in A and always a = x", "true", "always (some z in A : a = z)", "true", "always (choose z in A : true) = x", "true", "always (let z = n : z >= 0)", "true", "P", "false, ErrName at 0", "always P", "false, ErrName at 7")
}

func TestT4Faults(t *testing.T) {
	m := made(t, lamp)
	long := strings.Repeat("always ", 24)
	means(t, m, []int{0, 4}, 0, "", "false, ErrSyntax at 0", "on and", "false, ErrSyntax at 6", "on until on until on", "false, ErrSyntax at 12", "always", "false, ErrSyntax at 6", "9223372036854775808", "false, ErrRange at 0",
		strings.Repeat(" ", 999)+"on", "false, ErrFull at 0", strings.Repeat(" ", 998)+"on", "false", long+"on", "false", long+"always on", "false, ErrFull at 168",
		"off", "false, ErrName at 0", "on and always off", "false, ErrName at 14", "enabled on", "false, ErrName at 0", "enabled Held", "false, ErrName at 0", "Goes", "false, ErrName at 0", "all on in {1} : true", "false, ErrName at 0",
		"{always on}", "false, ErrLevel at 0", "size({enabled Go})", "false, ErrLevel at 5", "if always on then on else on", "false, ErrLevel at 0", "on = enabled Go", "false, ErrSyntax at 5", "on = (enabled Go)", "false, ErrLevel at 3",
		"always 1", "false, ErrKind at 0", "on until 1", "false, ErrKind at 3", "on leadsto by", "false, ErrKind at 3", "1 + on", "false, ErrKind at 2", "always (by = 1)", "false, ErrKind at 11",
		"some a in Hands : some b in Hands : some c in Hands : some d in Hands : on", "false, ErrFull at 0", "always all a in Hands : on", "false, ErrSyntax at 7",
		"always (some a in Hands : some b in Hands : some c in Hands : some d in Hands : on)", "false, ErrFull at 0", "always (some a in Hands : some b in Hands : some c in Hands : true)", "true")
}

// There may be more signs of time than a property has.
func TestT4ManySigns(t *testing.T) {
	m := made(t, lamp)
	means(t, m, []int{0, 4}, 0, "always eventually always eventually always eventually always eventually on", "true", "(on leadsto not on) and (not on leadsto on) and (on leadsto on) and (on leadsto by = left)", "true")
	if _, _, err := model.New(lamp + "property Z == always eventually always eventually always eventually always eventually on"); plain.Told(err) != api.ErrFull {
		t.Errorf("got %v", err)
	}
}

func TestT4Range(t *testing.T) {
	m := made(t, lamp)
	const none = "false, ErrRange at 0"
	means(t, m, nil, 0, "true", none, "always on", none)
	means(t, m, nil, -1, "true", none)
	for _, loop := range []int{-1, 2, 3, math.MinInt, math.MaxInt} {
		means(t, m, []int{0, 4}, loop, "true", none, "always on", none, "offf", "false, ErrName at 0", "1 + on", "false, ErrKind at 2", "(", "false, ErrSyntax at 1")
	}
	for _, s := range []int{-1, 6, math.MinInt, math.MaxInt} {
		means(t, m, []int{s}, 0, "true", none)
		means(t, m, []int{0, s}, 0, "true", none, "on +", "false, ErrSyntax at 4")
		means(t, m, []int{s, 0}, 1, "always true", none)
	}
	means(t, m, []int{0, 0, 1, 3, 2}, 4, "eventually by = left", "true", "always not on", "false")
}

// formula is a formula, and what it is at a place.
type formula struct {
	text string
	so   func(place int) bool
}

// maker makes formulas, at random, over a way without an end.
type maker struct {
	*rand.Rand
	t      *testing.T
	model  *model.Model
	states []int
	loop   int
}

// at is the place so many behind another.
func (m *maker) at(place, behind int) int {
	for range behind {
		if place++; place == len(m.states) {
			place = m.loop
		}
	}
	return place
}

func (m *maker) leaf() formula {
	if m.Intn(4) == 0 {
		action := m.Intn(len(m.model.Actions()))
		return formula{"enabled " + m.model.Actions()[action], func(place int) bool { return len(step.By(m.model, action, m.states[place])) > 0 }}
	}
	of := []string{"true", "false", "nil", "b", "b'", "not b", "n = 0", "n < 2", "n = 3", "n' > n", "Up", "Down", "Flip", "Small", "unchanged b", "n in {1, 2} and b", "some z in {n, n'} : z = 3", "if b then n = 0 else n = 1"}
	text := of[m.Intn(len(of))]
	return formula{text, func(place int) bool {
		got, _, err := m.model.Eval(text, m.states[place], m.states[m.at(place, 1)])
		if err != nil {
			m.t.Fatal(err)
		}
		return got == "true"
	}}
}

// until tells as T4 says it: all places that there are come within so many behind another.
func (m *maker) until(p, q func(int) bool) func(int) bool {
	return func(place int) bool {
		for behind := range 2*len(m.states) + 1 {
			if q(m.at(place, behind)) {
				return true
			}
			if !p(m.at(place, behind)) {
				return false
			}
		}
		return false
	}
}

func (m *maker) everywhere(p func(int) bool) func(int) bool {
	return func(place int) bool {
		for behind := range 2*len(m.states) + 1 {
			if !p(m.at(place, behind)) {
				return false
			}
		}
		return true
	}
}

func (m *maker) formula(deep int) formula {
	if deep == 0 {
		return m.leaf()
	}
	p, q := m.formula(deep-1), m.formula(m.Intn(deep))
	one, two := "("+p.text+")", "("+q.text+")"
	yes := func(int) bool { return true }
	switch m.Intn(10) {
	case 0:
		return formula{"not " + one, func(i int) bool { return !p.so(i) }}
	case 1:
		return formula{one + " and " + two, func(i int) bool { return p.so(i) && q.so(i) }}
	case 2:
		return formula{one + " or " + two, func(i int) bool { return p.so(i) || q.so(i) }}
	case 3:
		return formula{one + " implies " + two, func(i int) bool { return !p.so(i) || q.so(i) }}
	case 4:
		return formula{one + " iff " + two, func(i int) bool { return p.so(i) == q.so(i) }}
	case 5:
		return formula{"always " + one, m.everywhere(p.so)}
	case 6:
		return formula{"eventually " + one, m.until(yes, p.so)}
	case 7:
		leads := m.everywhere(func(i int) bool { return !p.so(i) || m.until(yes, q.so)(i) })
		return formula{one + " leadsto " + two, leads}
	}
	return formula{one + " until " + two, m.until(p.so, q.so)}
}

func TestT4Random(t *testing.T) {
	r := rand.New(rand.NewSource(5))
	model := made(t, steps)
	found := map[bool]int{}
	for range 3000 {
		states := random(r, model, 1+r.Intn(6))
		m := &maker{r, t, model, states, r.Intn(len(states))}
		f := m.formula(1 + r.Intn(3))
		want := f.so(0)
		means(t, model, states, m.loop, f.text, fmt.Sprint(want))
		found[want]++
	}
	if found[true] < 500 || found[false] < 500 {
		t.Errorf("too few of a sort: %v", found)
	}
}

func isFair(t *testing.T, m *model.Model, want bool, loop int, lists ...[]int) {
	t.Helper()
	for _, states := range lists {
		if got := trace.Fair(m, states, loop); got != want {
			t.Errorf("Fair(%v, %d): got %v", states, loop, got)
		}
	}
}

func TestT5Examples(t *testing.T) {
	m := made(t, lamp)
	isFair(t, m, false, 1, []int{0, 4})
	isFair(t, m, true, 0, []int{0, 4})
}

func TestT5Weak(t *testing.T) {
	m := made(t, "module M variable n in 0 .. 3 action A == n < 3 and n' = n + 1 action B == n' = 0 fair weak A")
	isFair(t, m, true, 0, []int{0, 1}, []int{3}, []int{3, 3}, []int{3, 0}, []int{3, 2, 1}, []int{0, 1, 2, 3}, []int{2, 2, 3})
	isFair(t, m, false, 0, []int{0}, []int{0, 0}, []int{2, 1, 0}[:1], []int{1}, []int{0, 2})
	isFair(t, m, true, 1, []int{0, 3}, []int{0, 0, 1}, []int{0, 0, 3}, []int{2, 3, 3})
	isFair(t, m, false, 1, []int{0, 1}, []int{3, 2}, []int{0, 1, 1}, []int{3, 0, 0})
	isFair(t, m, false, 2, []int{0, 1, 0}, []int{0, 1, 2})
	isFair(t, m, true, 2, []int{0, 0, 3}, []int{0, 0, 1, 2})
}

func TestT5Strong(t *testing.T) {
	m := made(t, "module M variable n in 0 .. 3 action A == n < 3 and n' = n + 1 action B == n' = 0 fair strong A")
	isFair(t, m, true, 0, []int{0, 1}, []int{3}, []int{3, 3}, []int{0, 1, 2, 3}, []int{2, 3})
	isFair(t, m, false, 0, []int{0}, []int{0, 0}, []int{3, 0}, []int{3, 1}, []int{0, 3}, []int{3, 3, 0})
	isFair(t, m, true, 1, []int{0, 3}, []int{0, 3, 3}, []int{0, 0, 1})
	isFair(t, m, false, 1, []int{0, 1}, []int{0, 1, 3}, []int{0, 3, 1})
}

// An action that is not fair may be passed over; one that is so twice is so in each manner.
func TestT5Which(t *testing.T) {
	const head = "module M variable n in 0 .. 3 action A == n < 3 and n' = n + 1 action B == n' = 0 "
	for _, row := range []struct {
		fair       string
		zero, both bool // whether 0 alone, and whether 3 and 1 in turn are fair
	}{
		{"", true, true}, {"fair weak B", true, false}, {"fair strong B", true, false}, {"fair weak A", false, true}, {"fair strong A", false, false}, {"fair weak A fair strong A", false, false},
		{"fair strong A fair weak A", false, false}, {"fair weak B fair weak A", false, false}, {"fair weak A fair weak A", false, true}, {"action C == false fair weak C fair strong C", true, true},
	} {
		m := made(t, head+row.fair)
		isFair(t, m, row.zero, 0, []int{0})
		isFair(t, m, row.both, 0, []int{3, 1})
	}
	isFair(t, made(t, "module M action A == true fair weak A"), true, 0, []int{0})
	isFair(t, made(t, "module M"), true, 0, []int{0})
}

func TestT5None(t *testing.T) {
	m := made(t, "module M variable n in 0 .. 1 action A == true")
	isFair(t, m, true, 1, []int{0, 1}, []int{1, 0})
	for _, loop := range []int{-1, 2, math.MinInt, math.MaxInt} {
		isFair(t, m, false, loop, []int{0, 1}, nil)
	}
	isFair(t, m, false, 0, nil, []int{}, []int{-1}, []int{2}, []int{0, 2}, []int{-1, 0}, []int{math.MaxInt}, []int{math.MinInt})
	isFair(t, m, false, 1, []int{-1, 0}, []int{2, 0})
}

// fairly tells as T5 says it whether a way of Steps passes over no action.
func fairly(m *model.Model, states []int, loop int) bool {
	for _, f := range []string{"weak Up", "strong Flip", "strong Low", "weak Low", "weak Never", "strong Never"} {
		how, name, _ := strings.Cut(f, " ")
		action := slices.Index(m.Actions(), name)
		all, one, goes := true, false, false
		for i := loop; i < len(states); i++ {
			to := states[loop]
			if i+1 < len(states) {
				to = states[i+1]
			}
			by := step.By(m, action, states[i])
			all, one, goes = all && len(by) > 0, one || len(by) > 0, goes || slices.Contains(by, to)
		}
		if !goes && (how == "weak" && all || how == "strong" && one) {
			return false
		}
	}
	return true
}

func TestT5Random(t *testing.T) {
	r := rand.New(rand.NewSource(6))
	m := made(t, steps)
	found := map[bool]int{}
	for range 3000 {
		states := random(r, m, 1+r.Intn(12))
		loop := r.Intn(len(states))
		want := fairly(m, states, loop)
		isFair(t, m, want, loop, states)
		found[want]++
	}
	if found[true] < 300 || found[false] < 300 {
		t.Errorf("too few of a sort: %v", found)
	}
}

func breaks(t *testing.T, m *model.Model, want bool, name string, loop int, states ...int) {
	t.Helper()
	if got := trace.Breaks(m, name, api.Answer{Trace: states, Loop: loop}); got != want {
		t.Errorf("Breaks(%s, %v, %d): got %v", name, states, loop, got)
	}
	if trace.Breaks(m, name, api.Answer{Holds: true, Trace: states, Loop: loop}) {
		t.Errorf("Breaks(%s, %v, %d), though it holds", name, states, loop)
	}
}

func TestT6Invariants(t *testing.T) {
	m := made(t, lamp)
	breaks(t, m, true, "Dark", -1, 0, 4)
	breaks(t, m, true, "Dark", -1, 0, 5)
	breaks(t, m, true, "Dark", -1, 0, 4, 0, 5)
	for _, loop := range []int{0, 1, 2, -2, math.MinInt, math.MaxInt} {
		breaks(t, m, false, "Dark", loop, 0, 4)
	}
	breaks(t, m, false, "Dark", -1, 0)
	breaks(t, m, false, "Dark", -1, 0, 4, 0)
	breaks(t, m, false, "Dark", -1, 4)
	breaks(t, m, false, "Dark", -1, 0, 3)
	breaks(t, m, false, "Dark", -1)
	breaks(t, m, false, "Dark", -1, 0, 6)
	breaks(t, m, false, "Dark", -1, -1)
	breaks(t, m, false, "Held", -1, 0, 4)
	breaks(t, m, false, "Held", -1, 0, 3)
	nothing := made(t, "module M invariant A == nil invariant B == true")
	breaks(t, nothing, true, "A", -1, 0)
	breaks(t, nothing, true, "A", -1, 0, 0)
	breaks(t, nothing, false, "B", -1, 0)
}

func TestT6Properties(t *testing.T) {
	m := made(t, lamp)
	breaks(t, m, true, "Rests", 0, 0, 4)
	breaks(t, m, true, "Rests", 2, 0, 4, 0, 5)
	breaks(t, m, true, "Rests", 0, 0, 4, 0, 5)
	breaks(t, m, false, "Rests", 1, 0, 4, 0, 5)
	breaks(t, m, false, "Rests", 3, 0, 4, 0, 5)
	breaks(t, m, false, "Rests", 0, 0, 4, 0)
	breaks(t, m, false, "Rests", 1, 0, 4)
	for _, loop := range []int{-1, -2, 2, 3, math.MinInt, math.MaxInt} {
		breaks(t, m, false, "Rests", loop, 0, 4)
	}
	breaks(t, m, false, "Rests", 0)
	breaks(t, m, false, "Rests", 0, 4, 0)
	breaks(t, m, false, "Rests", 0, 0, 3)
	breaks(t, m, false, "Goes", 0, 0, 4)
	breaks(t, m, false, "Goes", 1, 0, 4)
}

// A way on which an action is passed over shows nothing.
func TestT6Fair(t *testing.T) {
	const wait = "action Wait == unchanged on and unchanged by\n"
	m := made(t, lamp+wait)
	breaks(t, m, false, "Goes", 1, 0, 4)
	breaks(t, m, true, "Rests", 0, 0, 4)
	m = made(t, strings.Replace(lamp, "fair weak Go\n", "", 1)+wait)
	breaks(t, m, true, "Goes", 1, 0, 4)
	breaks(t, m, false, "Goes", 0, 0, 4)
	m = made(t, lamp+"property A == eventually always by in Hands\nproperty B == eventually on\n")
	breaks(t, m, true, "A", 0, 0, 4)
	breaks(t, m, false, "B", 0, 0, 4)
}

// From a state without a step the way goes on to itself alone.
func TestT6NoStep(t *testing.T) {
	m := made(t, ends+"property Low == always n < 3\nproperty Four == eventually n = 4\nproperty Next == always (n = 3 implies n' = 4)\ninvariant I == n /= 3\n")
	breaks(t, m, true, "Low", 1, 0, 3)
	breaks(t, m, true, "Low", 2, 0, 3, 3)
	breaks(t, m, true, "Low", 1, 0, 3, 3)
	breaks(t, m, false, "Low", 0, 0, 3)
	breaks(t, m, true, "Four", 3, 0, 1, 2, 3)
	breaks(t, m, false, "Four", 2, 0, 1, 2)
	breaks(t, m, false, "Four", 0, 4)
	breaks(t, m, true, "Next", 1, 0, 3)
	breaks(t, m, false, "Next", 0, 4)
	breaks(t, m, true, "I", -1, 0, 3)
	breaks(t, m, true, "I", -1, 0, 3, 3)
}

func TestT6NoSuchName(t *testing.T) {
	m := made(t, lamp)
	for _, name := range []string{"", "dark", "Dark ", "on", "Go", "Hands", "left", "Lamp", "not on", "always on", "zz", "invariant", "\xff"} {
		for _, loop := range []int{-1, 0, 1} {
			breaks(t, m, false, name, loop, 0, 4)
		}
	}
}

func TestT6Random(t *testing.T) {
	r := rand.New(rand.NewSource(7))
	m := made(t, steps)
	said := map[string]string{}
	for _, line := range strings.Split(steps, "\n") {
		if head, formula, is := strings.Cut(line, " == "); is && !strings.HasPrefix(head, "action") {
			said[head] = formula
		}
	}
	found := map[string]int{}
	for range 4000 {
		states := random(r, m, 1+r.Intn(12))
		loop := r.Intn(len(states)+1) - 1
		for head, formula := range said {
			sort, name, _ := strings.Cut(head, " ")
			last := states[len(states)-1]
			want := isWay(m, states)
			if sort == "invariant" {
				got, _, _ := m.Eval(formula, last, last)
				want = want && loop == -1 && got != "true"
			} else {
				want = want && loop >= 0 && goesOn(m, last, states[loop]) && fairly(m, states, loop) && toldMeans(m, formula, states, loop) == "false"
			}
			breaks(t, m, want, name, loop, states...)
			if want {
				found[name]++
			}
		}
	}
	for _, name := range []string{"Small", "Nil", "Odd", "Reach", "Leads", "Not", "Stays"} {
		if found[name] < 5 {
			t.Errorf("%s is seldom broken: %v", name, found)
		}
	}
}
