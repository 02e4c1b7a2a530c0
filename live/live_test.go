package live_test

import (
	"fmt"
	"slices"
	"strings"
	"testing"

	"sextant/api"
	"sextant/live"
	"sextant/model"
	"sextant/plain"
	"sextant/trace"
)

const lamp = `module Lamp
atoms Hands = {left, right}
symmetric Hands
variable on in {false, true}
variable by in Hands union {nil}
init not on and by = nil
action Press == not on and on' = true and by' in Hands
action Go == on and on' = false and by' = nil
fair weak Go
invariant Held == on implies by in Hands
invariant Dark == not on
property Goes == always (on implies eventually not on)
property Rests == eventually always not on
`

const wait = "action Wait == unchanged on and unchanged by\n"

func made(t *testing.T, text string) *model.Model {
	t.Helper()
	m, at, err := model.New(text)
	if err != nil {
		t.Fatalf("New(%q): %v at %d", text, err, at)
	}
	return m
}

// check asks, and looks whether the answer is one: it holds, with no way, or it is shown not to hold.
func check(t *testing.T, m *model.Model, property string) api.Answer {
	t.Helper()
	a, err := live.Check(m, property)
	if err != nil {
		t.Fatalf("Check(%s): %v", property, err)
	}
	if a.Holds && (len(a.Trace) != 0 || a.Loop != -1) || !a.Holds && !trace.Breaks(m, property, a) {
		t.Fatalf("Check(%s): got %+v", property, a)
	}
	return a
}

// holds and fails look what comes of formulas as properties of a module.
func holds(t *testing.T, text string, formulas ...string) {
	t.Helper()
	says(t, text, true, formulas)
}

func fails(t *testing.T, text string, formulas ...string) {
	t.Helper()
	says(t, text, false, formulas)
}

func says(t *testing.T, text string, want bool, formulas []string) {
	t.Helper()
	for i, f := range formulas {
		text += fmt.Sprintf("property Q%d == %s\n", i, f)
	}
	m := made(t, text)
	for i, f := range formulas {
		if got := check(t, m, fmt.Sprint("Q", i)); got.Holds != want {
			t.Errorf("%s: got %+v", f, got)
		}
	}
}

// shows looks which way is shown, where there are few.
func shows(t *testing.T, text, property string, loop int, states ...int) {
	t.Helper()
	a := check(t, made(t, text), property)
	if a.Holds || a.Loop != loop || !slices.Equal(a.Trace, states) {
		t.Errorf("Check(%s): got %+v, want %v, back to %d", property, a, states, loop)
	}
}

func TestL1Examples(t *testing.T) {
	holds(t, lamp, "always (on implies eventually not on)", "eventually on")
	fails(t, lamp, "eventually always not on", "eventually always by in Hands")
	if a := check(t, made(t, lamp), "Goes"); !a.Holds {
		t.Errorf("Goes: got %+v", a)
	}
	if a := check(t, made(t, lamp), "Rests"); a.Holds {
		t.Errorf("Rests: got %+v", a)
	}
	if a := check(t, made(t, lamp+wait), "Goes"); !a.Holds {
		t.Errorf("Goes, with Wait: got %+v", a)
	}
	shows(t, strings.Replace(lamp, "fair weak Go\n", "", 1)+wait, "Goes", 1, 0, 4)
}

// ring goes round, or stays where it is.
const ring = `module Ring
variable n in 0 .. 3
init n = 0
action Up == n' = (n + 1) % 4
action Stay == unchanged n
`

func TestL1Signs(t *testing.T) {
	holds(t, ring, "true", "n = 0", "not false", "n' in {0, 1}", "Up or Stay", "enabled Up", "always enabled Stay", "always (Up or Stay)", "always n < 4", "not always n = 4", "eventually n = 0",
		"n = 0 until n in {0, 1}", "(always n = 0) or eventually n = 1", "(eventually n = 2) implies eventually n = 1", "(eventually n = 2) implies (n < 2 until n = 2)", "n = 3 leadsto n = 3",
		"(always eventually n = 1) implies always (n = 1 implies eventually n = 1)", "(always eventually n = 0) and (always eventually n' = 1) implies true", "not eventually (n = 1 and n' = 3)",
		"(eventually always n = 3) implies eventually n = 2", "(always eventually n = 2) implies eventually n = 3 or eventually always n = 2", "always (n = 1 and Up implies n' = 2)", "(eventually n = 1) iff not always n = 0",
		"(n < 3 until n = 3) iff eventually n = 3", "eventually always eventually true", "always (n = 2 implies (n = 2 until n = 3) or always n = 2)")
	fails(t, ring, "false", "n = 1", "not true", "n' = 1", "n' = 0", "Up", "nil", "nil or always false", "always Up", "always n = 0", "eventually n = 3", "always n < 3", "n < 3 until n = 3", "n = 0 leadsto n = 1",
		"(eventually n = 2) implies eventually n = 3", "always eventually n = 0", "eventually always n = 0", "not always eventually n = 0", "not eventually always n = 2", "(always n = 0) or always eventually n = 1",
		"(eventually n = 1) iff always eventually n = 1", "not ((eventually n = 1) and eventually always n = 2)", "eventually Up", "always (enabled Up implies eventually Up)", "(n = 0 until n = 1) until n = 2",
		"(always eventually n = 2) implies eventually always n = 2")
	fair := ring + "fair weak Up\n"
	holds(t, fair, "always eventually n = 0", "n = 0 leadsto n = 3", "n < 3 until n = 3", "always eventually Up", "(n < 2 until n = 2) and eventually n = 3", "always (n = 2 implies (n = 2 until n = 3))")
	fails(t, fair, "always eventually Stay", "eventually always n = 0", "eventually Stay", "always (n = 0 implies n' = 1)", "not (always eventually n = 0)", "n = 0 until n = 2")
}

// There is but one such way, or one that the nearest place at which it could go on for ever asks for.
func TestL1Shown(t *testing.T) {
	shows(t, ring+"property P == n' = 0", "P", 1, 0, 1)
	shows(t, ring+"property P == eventually n = 1", "P", 0, 0)
	shows(t, ring+"fair weak Up property P == not (always n' /= n)", "P", 0, 0, 1, 2, 3)
	shows(t, ring+"property P == (eventually n = 3) implies always eventually n = 0", "P", 3, 0, 1, 2, 3)
	shows(t, "module M variable n in 0 .. 3 init n = 1 action A == n' = n + 1 property P == n < 1", "P", 2, 1, 2, 3)
	shows(t, "module M variable n in 0 .. 3 init n = 1 action A == n' = n + 1 property P == always n < 3", "P", 2, 1, 2, 3)
}

// Six signs of time, within one another and side by side.
func TestL1MostSigns(t *testing.T) {
	holds(t, ring, "always eventually always eventually always eventually n < 4", "(n = 0 leadsto n = 0) and (n = 1 leadsto n = 1) and (n = 2 leadsto n = 2)",
		"(((n = 0 until n = 1) until n = 2) until n = 3) implies (eventually n = 1) and (eventually n = 2) and eventually n = 3")
	fails(t, ring, "always eventually always eventually always eventually n < 3", "(n = 0 leadsto n = 0) and (n = 1 leadsto n = 1) and (n = 2 leadsto n = 3)",
		"(eventually always n = 0) or (eventually always n = 1) or (eventually always n = 2)", "not ((always eventually n = 0) and (always eventually n = 1) and always eventually n = 2)",
		"not ((eventually n = 1) and (eventually n = 2) and (eventually n = 3) and (eventually Stay) and eventually always n = 0)")
	holds(t, ring+"fair weak Up\n", "always ((eventually n = 0) and (eventually n = 1) and (eventually n = 2) and (eventually n = 3) and eventually Up)")
	fails(t, ring+"fair weak Up\n", "always ((eventually n = 0) and (eventually n = 1) and (eventually n = 2) and (eventually n = 3) and eventually Stay)")
}

func TestL1Fair(t *testing.T) {
	// B is enabled in 0 alone; a way can go between 0 and 1 for ever.
	const turns = "module M variable n in 0 .. 2 init n = 0 action A == n < 2 and n' = 1 - n action B == n = 0 and n' = 2 action C == n = 2 and n' = 2\n"
	fails(t, turns, "eventually n = 2")
	fails(t, turns+"fair weak B\n", "eventually n = 2")
	fails(t, turns+"fair weak B fair weak B fair weak A\n", "eventually n = 2")
	fails(t, turns+"fair strong A fair weak C fair strong C\n", "eventually n = 2")
	holds(t, turns+"fair strong B\n", "eventually n = 2", "eventually always n = 2", "eventually B")
	holds(t, turns+"fair weak B fair strong B\n", "eventually n = 2")
	holds(t, turns+"fair strong B fair weak B\n", "eventually n = 2")
	// An action that goes by a step that another makes, too, is not passed over.
	const same = "module M variable n in 0 .. 1 init n = 0 action A == n' = 1 - n action B == n = 0 and n' = 1 action C == unchanged n\n"
	holds(t, same+"fair weak A\n", "always eventually n = 1", "eventually B")
	fails(t, same+"fair weak B\n", "always eventually n = 0")
	holds(t, same+"fair weak B\n", "always eventually n = 1")
	fails(t, same+"fair strong C\n", "eventually n = 1")
	// One that is never enabled is never passed over.
	holds(t, ring+"action N == n = 5 fair weak N fair strong N\n", "always not enabled N")
	fails(t, ring+"action N == n = 5 fair weak N fair strong N\n", "eventually n = 1")
	// Being weakly fair to each of two is not being so to one of them.
	const two = "module M variable n in 0 .. 3 init n = 0 action A == n = 0 and n' = 1 action B == n = 1 and n' = 0 action C == n = 1 and n' = 2 action D == n = 0 and n' = 3 action E == n > 1 and unchanged n\n"
	fails(t, two+"fair weak C fair weak D\n", "eventually n > 1")
	holds(t, two+"fair weak C fair strong D\n", "eventually n > 1")
	holds(t, two+"fair strong C fair strong D\n", "eventually n > 1")
	fails(t, two+"fair strong C fair strong D\n", "eventually n = 2", "eventually n = 3", "always n < 2")
}

// Where an action is passed over, ways that stay clear of it are looked for; among them others are passed over.
func TestL1FairAgain(t *testing.T) {
	// Round 0 1 2 3 4; from 1 to 0 and from 3 to 2 and from 2 to 1, too; out goes to 5.
	const maze = `module Maze
variable n in 0 .. 5
init n = 0
action Round == n < 5 and n' = (n + 1) % 5
action Back == n in {1, 2, 3} and n' = n - 1
action Out4 == n = 4 and n' = 5
action Out3 == n = 3 and n' = 5
action Out2 == n = 2 and n' = 5
action Out1 == n = 1 and n' = 5
action Out0 == n = 0 and n' = 5
`
	fair := func(which string) string {
		text := maze
		for _, n := range which {
			text += "fair strong Out" + string(n) + "\n"
		}
		return text
	}
	for _, which := range []string{"", "0", "1", "2", "3", "4", "43", "34", "40", "04", "01", "10", "432"} {
		fails(t, fair(which), "eventually n = 5")
	}
	for _, which := range []string{"31", "13", "42", "024", "0123", "12", "21", "01234", "43210"} {
		want := "eventually n = 5"
		if which == "42" || which == "432" {
			fails(t, fair(which), want) // between 0 and 1
			continue
		}
		holds(t, fair(which), want)
	}
	fails(t, fair("43"), "eventually n = 4", "always eventually n = 2", "eventually always n < 2")
	holds(t, fair("43"), "(always eventually n = 3) implies eventually n = 5", "(always eventually n = 4) implies eventually n = 5")
	holds(t, fair("432"), "(eventually n = 5) or eventually always n < 2")
	holds(t, fair("43"), "(eventually n = 5) or eventually always n < 3")
	fails(t, fair("43"), "(eventually n = 5) or eventually always n < 2")
}

// From a state without a step a way stays there, and nothing is passed over there.
func TestL2NoStep(t *testing.T) {
	const chain = "module M variable n in 0 .. 3 init n = 0 action A == n' = n + 1 fair strong A fair weak A action B == n = 1 and n' = 3\n"
	holds(t, chain, "eventually n = 3", "eventually always n = 3", "always (n = 3 implies n' = 3)", "always (n = 3 implies not enabled A and not enabled B)", "eventually always not (A or B)", "eventually always n' = n",
		"always (A or B or n = 3)", "n < 3 until always n = 3", "(always n /= 2) iff eventually B")
	fails(t, chain, "always (A or B)", "eventually n = 2", "always n < 3", "always eventually enabled A", "not eventually always n = 3", "always eventually n = 0", "always n /= 2")
	const none = "module M variable n in 0 .. 1\n"
	holds(t, none, "always n' = n", "(always n = 0) or always n = 1", "n = 0 leadsto n = 0")
	fails(t, none, "n = 0", "always n = 1", "eventually n = 0", "n' /= n", "n = 0 leadsto n = 1")
	// One that has a step does not stay, but by an action.
	holds(t, "module M variable n in 0 .. 1 init n = 0 action A == n' = 1 - n\n", "n' = 1", "always eventually n = 1", "always n' /= n")
	holds(t, "module M\n", "always true", "eventually true")
	fails(t, "module M\n", "eventually false", "not true")
	holds(t, "module M action A == true\n", "always A", "always enabled A")
	fails(t, "module M action A == false\n", "eventually A", "eventually enabled A")
}

func TestL2NoneInitial(t *testing.T) {
	for _, text := range []string{"module M init false\n", "module M variable n in 0 .. 3 init n = 4 action A == true fair strong A\n", "module M init nil action A == false\n"} {
		holds(t, text, "false", "true", "nil", "always false", "eventually false", "not true", "true until false", "true leadsto false")
	}
}

// All initial states are looked at, and all that comes right behind the first place.
func TestL1FirstPlaces(t *testing.T) {
	const many = "module M variable n in 0 .. 4 init n in {1, 3} action A == n in {1, 3} and n' in {n - 1, n + 1} action B == unchanged n\n"
	holds(t, many, "n in {1, 3}", "n' < 5", "(n = 1) iff not (n = 3)", "n = 1 implies n' < 3", "always (n = 4 implies always n = 4)")
	fails(t, many, "n = 1", "n = 3", "n' = n", "n = 3 implies n' < 4", "n = 3 implies n' > 2", "n = 1 implies n' > 0", "A", "B", "n' in {0, 1, 2, 3}", "n' in {1, 2, 3, 4}", "always n > 0", "always n < 4",
		"n = 3 implies always n > 2", "n = 1 implies eventually n = 2")
}

func TestL1Names(t *testing.T) {
	m := made(t, lamp)
	for _, name := range []string{"", "goes", "Goes ", " Goes", "Dark", "Held", "Press", "on", "Hands", "left", "Lamp", "always on", "true", "property", "\xff", strings.Repeat("G", 1000)} {
		a, err := live.Check(m, name)
		if plain.Told(err) != api.ErrName || a.Holds || a.Trace != nil || a.Loop != 0 {
			t.Errorf("Check(%q): got %+v, %v", name, a, err)
		}
	}
	if _, err := live.Check(made(t, "module M init false"), "P"); plain.Told(err) != api.ErrName {
		t.Errorf("no property: got %v", err)
	}
}

func TestP2Fresh(t *testing.T) {
	m := made(t, lamp)
	first := check(t, m, "Rests")
	kept := slices.Clone(first.Trace)
	for i := range first.Trace {
		first.Trace[i] = -1
	}
	if again := check(t, m, "Rests"); !slices.Equal(again.Trace, kept) {
		t.Errorf("got %v, then %v", kept, again.Trace)
	}
}

// As many states as there may be, with signs of time as many as there may be.
func TestL1Great(t *testing.T) {
	const great = "module M variable h in 0 .. 63 variable l in 0 .. 63 init h = 0 and l = 0 action A == l < 63 and l' = l + 1 and unchanged h action B == l = 63 and l' = 0 and h' = (h + 1) % 64 action C == h = 63 and l = 63 and unchanged h and unchanged l\n"
	fails(t, great, "always eventually h = 0", "(h = 0 leadsto h = 1) and (h = 1 leadsto h = 2) and (h = 63 leadsto h = 0)", "always (h = 63 and l = 63 implies eventually B)")
	holds(t, great+"fair weak B\n", "always eventually h = 0", "(h = 0 leadsto h = 1) and (h = 1 leadsto h = 2) and (h = 63 leadsto h = 0)", "always (h = 63 and l = 63 implies eventually B)")
	holds(t, great+"fair strong B\n", "(l < 63 until l = 63) and always eventually (l = 63 and h = 63)")
	const dense = "module M variable h in 0 .. 15 variable l in 0 .. 15 action A == true fair strong A action B == h = 0 and h' = 1 and l' = 1 fair strong B\n"
	holds(t, dense, "(always eventually h = 0) implies always eventually l = 1")
	fails(t, dense, "always eventually h = 0", "(h = 0 leadsto h = 1) and (h = 1 leadsto h = 2) and (h = 2 leadsto h = 0)", "eventually always l' = l")
}
