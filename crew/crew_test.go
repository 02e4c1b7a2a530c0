package crew_test

import (
	"fmt"
	"math"
	"slices"
	"strings"
	"testing"

	"sextant/api"
	"sextant/crew"
	"sextant/graph"
	"sextant/model"
	"sextant/plain"
)

const lamp = `module Lamp
atoms Hands = {left, right}
symmetric Hands
variable on in {false, true}
variable by in Hands union {nil}
init not on and by = nil
action Press == not on and on' = true and by' in Hands
action Go == on and on' = false and by' = nil
fair weak Go
invariant Held == on implies by in Hands
invariant Dark == not on
property Goes == always (on implies eventually not on)
property Rests == eventually always not on
`

// net has states of which, with two workers, the even ones are worker 1's, and the odd ones worker 0's.
const net = `module Net
variable n in 0 .. 9
init n in {4, 0}
action Go == n = 0 and n' in {7, 2, 5, 6}
	or n = 4 and n' in {3, 7, 8}
	or n = 5 and n' in {0, 9}
	or n = 7 and n' in {5, 9}
`

func made(t *testing.T, text string) *model.Model {
	t.Helper()
	m, at, err := model.New(text)
	if err != nil {
		t.Fatalf("New(%q): %v at %d", text, err, at)
	}
	return m
}

func crewOf(t *testing.T, text string, n int) *crew.Crew {
	t.Helper()
	c, err := crew.New(made(t, text), n)
	if err != nil {
		t.Fatalf("New with %d: %v", n, err)
	}
	return c
}

// shown is a view in one line: of each worker what it has seen, its queue, what it owes, what is there for good, its tick; then the messages.
func shown(v api.View) string {
	var parts []string
	for _, w := range v.Members {
		parts = append(parts, fmt.Sprint(w.Seen, w.Queue, w.Owed, w.Synced, " ", w.Tick))
	}
	text := strings.Join(parts, " / ")
	for _, p := range v.Packets {
		text += fmt.Sprintf("; %d>%d", p.From, p.To)
		if p.Back {
			text += " back"
		}
		text += fmt.Sprint(" ", p.State)
	}
	if v.Done {
		text += "; done"
	}
	return text
}

// done is an act, and what is shown behind it.
type done struct {
	kind, a int
	want    string
}

// play does acts, one behind the other.
func play(t *testing.T, c *crew.Crew, acts ...done) {
	t.Helper()
	for i, d := range acts {
		c.Do(api.Act{Kind: d.kind, A: d.a})
		if got := shown(c.View()); got != d.want {
			t.Fatalf("behind act %d, %d of %d:\ngot  %s\nwant %s", i, d.kind, d.a, got, d.want)
		}
	}
}

// does does acts of one kind.
func does(c *crew.Crew, kind int, numbers ...int) {
	for _, a := range numbers {
		c.Do(api.Act{Kind: kind, A: a})
	}
}

// is tells a test's fault if something else is shown.
func is(t *testing.T, c *crew.Crew, want string) {
	t.Helper()
	if got := shown(c.View()); got != want {
		t.Errorf("got  %s\nwant %s", got, want)
	}
}

// numbers are those that are no worker's and no message's of a small crew.
var numbers = []int{-1, 8, 9, 1 << 31, 1 << 32, 1 << 62, math.MaxInt, math.MinInt, math.MinInt + 1}

func TestW1Range(t *testing.T) {
	m := made(t, lamp)
	for _, n := range append([]int{0}, numbers...) {
		c, err := crew.New(m, n)
		if n == api.MaxCrew {
			continue
		}
		if plain.Told(err) != api.ErrRange || c != nil {
			t.Errorf("New with %d: got %v, %v", n, c, err)
		}
	}
	for n := 1; n <= api.MaxCrew; n++ {
		if got := len(crewOf(t, lamp, n).View().Members); got != n {
			t.Errorf("New with %d: %d workers", n, got)
		}
	}
}

func TestW1Table(t *testing.T) {
	c := crewOf(t, lamp, 2)
	if got := []int{c.Owner(0), c.Owner(4), c.Owner(5)}; !slices.Equal(got, []int{1, 0, 1}) {
		t.Errorf("Owner of 0, 4, 5: got %v", got)
	}
}

func TestW1Owner(t *testing.T) {
	for _, text := range []string{lamp, net, "module Bare", "module M variable s in powerset (0 .. 6) variable t in {\"a b\", \"\", nil} variable u in {<<>>, <<-1>>}"} {
		m := made(t, text)
		for n := 1; n <= api.MaxCrew; n++ {
			c := crewOf(t, text, n)
			for s := range m.Space() {
				if got, want := c.Owner(s), int(graph.Digest(m, s)%uint64(n)); got != want {
					t.Errorf("%s: Owner(%d) of %d: got %d, want %d", text, s, n, got, want)
				}
			}
			for _, s := range []int{-1, m.Space(), math.MaxInt, math.MinInt} {
				if got := c.Owner(s); got != -1 {
					t.Errorf("%s: Owner(%d) of %d: got %d, want -1", text, s, n, got)
				}
			}
		}
	}
}

func TestW1Begin(t *testing.T) {
	is(t, crewOf(t, lamp, 2), "[] [] [] [] 0 / [0] [0] [] [0] 0")
	is(t, crewOf(t, net, 1), "[0 4] [0 4] [] [0 4] 0")
	is(t, crewOf(t, "module M variable n in 0 .. 9 init n in {8, 3, 2, 7}", 2), "[3 7] [3 7] [] [3 7] 0 / [2 8] [2 8] [] [2 8] 0")
	is(t, crewOf(t, "module M variable n in 0 .. 9", 2), "[1 3 5 7 9] [1 3 5 7 9] [] [1 3 5 7 9] 0 / [0 2 4 6 8] [0 2 4 6 8] [] [0 2 4 6 8] 0")
	is(t, crewOf(t, "module M variable n in 0 .. 9 init false", 2), "[] [] [] [] 0 / [] [] [] [] 0")
	is(t, crewOf(t, "module Bare", 3), "[] [] [] [] 0 / [] [] [] [] 0 / [0] [0] [] [0] 0")
}

func TestW2Work(t *testing.T) {
	const other = "[] [] [] [] 0 / "
	play(t, crewOf(t, net, 2),
		done{api.ActWork, 0, other + "[0 4] [0 4] [] [0 4] 0"}, // it has nothing to go through: no tick
		done{api.ActWork, 1, other + "[0 2 4 6] [4 2 6] [5 7] [0 4] 1; 1>0 5; 1>0 7"},
		done{api.ActWork, 1, other + "[0 2 4 6 8] [2 6 8] [5 7 3] [0 4] 2; 1>0 5; 1>0 7; 1>0 3"}, // 7 is owed, and not sent once more
		done{api.ActWork, 1, other + "[0 2 4 6 8] [6 8] [5 7 3] [0 4] 3; 1>0 5; 1>0 7; 1>0 3"},   // 2 has no step
		done{api.ActWork, 1, other + "[0 2 4 6 8] [8] [5 7 3] [0 4] 4; 1>0 5; 1>0 7; 1>0 3"},
		done{api.ActWork, 1, other + "[0 2 4 6 8] [] [5 7 3] [0 4] 5; 1>0 5; 1>0 7; 1>0 3"},
		done{api.ActWork, 1, other + "[0 2 4 6 8] [] [5 7 3] [0 4] 5; 1>0 5; 1>0 7; 1>0 3"},
	)
}

// A step to itself, or to what it has seen, is nothing new; what is lost stays owed, and what was told to have come is sent anew if a step goes there.
func TestW2WorkAgain(t *testing.T) {
	c := crewOf(t, "module M variable n in 0 .. 9 init n in {0, 2, 4} action A == n' in {0, 4, 1}", 2)
	play(t, c,
		done{api.ActWork, 1, "[] [] [] [] 0 / [0 2 4] [2 4] [1] [0 2 4] 1; 1>0 1"},
		done{api.ActLose, 0, "[] [] [] [] 0 / [0 2 4] [2 4] [1] [0 2 4] 1"},
		done{api.ActWork, 1, "[] [] [] [] 0 / [0 2 4] [4] [1] [0 2 4] 2"},
		done{api.ActAgain, 1, "[] [] [] [] 0 / [0 2 4] [4] [1] [0 2 4] 2; 1>0 1"},
		done{api.ActTwice, 0, "[] [] [] [] 0 / [0 2 4] [4] [1] [0 2 4] 2; 1>0 1; 1>0 1"},
		done{api.ActCarry, 0, "[1] [1] [] [] 1 / [0 2 4] [4] [1] [0 2 4] 2; 1>0 1"},
		done{api.ActSync, 0, "[1] [1] [] [1] 1 / [0 2 4] [4] [1] [0 2 4] 2; 1>0 1"},
		done{api.ActCarry, 0, "[1] [1] [] [1] 1 / [0 2 4] [4] [1] [0 2 4] 2; 0>1 back 1"},
		done{api.ActCarry, 0, "[1] [1] [] [1] 1 / [0 2 4] [4] [] [0 2 4] 2"},
		done{api.ActWork, 1, "[1] [1] [] [1] 1 / [0 2 4] [] [1] [0 2 4] 3; 1>0 1"},
	)
}

func TestW2Again(t *testing.T) {
	c := crewOf(t, net, 2)
	does(c, api.ActAgain, 0, 1)
	is(t, c, "[] [] [] [] 0 / [0 4] [0 4] [] [0 4] 0")
	does(c, api.ActWork, 1, 1)
	does(c, api.ActLose, 1)
	const workers = "[] [] [] [] 0 / [0 2 4 6 8] [2 6 8] [5 7 3] [0 4] 2"
	play(t, c,
		done{api.ActAgain, 0, workers + "; 1>0 5; 1>0 3"},
		done{api.ActAgain, 1, workers + "; 1>0 5; 1>0 3; 1>0 5; 1>0 7; 1>0 3"},
	)
}

func TestW2Sync(t *testing.T) {
	c := crewOf(t, net, 2)
	does(c, api.ActWork, 1)
	does(c, api.ActCarry, 0)
	play(t, c,
		done{api.ActSync, 1, "[5] [5] [] [] 1 / [0 2 4 6] [4 2 6] [5 7] [0 2 4 6] 1; 1>0 7"},
		done{api.ActSync, 0, "[5] [5] [] [5] 1 / [0 2 4 6] [4 2 6] [5 7] [0 2 4 6] 1; 1>0 7"},
		done{api.ActSync, 0, "[5] [5] [] [5] 1 / [0 2 4 6] [4 2 6] [5 7] [0 2 4 6] 1; 1>0 7"},
	)
}

func TestW2Crash(t *testing.T) {
	c := crewOf(t, net, 2)
	play(t, c, done{api.ActCrash, 0, "[] [] [] [] 1 / [0 4] [0 4] [] [0 4] 0"})
	does(c, api.ActWork, 1)
	does(c, api.ActSync, 1)
	does(c, api.ActWork, 1)
	play(t, c,
		// What it sent is still under way; 8 was not there for good.
		done{api.ActCrash, 1, "[] [] [] [] 1 / [0 2 4 6] [0 2 4 6] [] [0 2 4 6] 3; 1>0 5; 1>0 7; 1>0 3"},
		done{api.ActCarry, 2, "[3] [3] [] [] 2 / [0 2 4 6] [0 2 4 6] [] [0 2 4 6] 3; 1>0 5; 1>0 7"},
		done{api.ActCrash, 0, "[] [] [] [] 3 / [0 2 4 6] [0 2 4 6] [] [0 2 4 6] 3; 1>0 5; 1>0 7"},
		done{api.ActWork, 1, "[] [] [] [] 3 / [0 2 4 6] [2 4 6] [5 7] [0 2 4 6] 4; 1>0 5; 1>0 7; 1>0 5; 1>0 7"},
		done{api.ActCrash, 1, "[] [] [] [] 3 / [0 2 4 6] [0 2 4 6] [] [0 2 4 6] 5; 1>0 5; 1>0 7; 1>0 5; 1>0 7"},
	)
}

func TestW3Lose(t *testing.T) {
	c := crewOf(t, net, 2)
	does(c, api.ActWork, 1, 1)
	const workers = "[] [] [] [] 0 / [0 2 4 6 8] [2 6 8] [5 7 3] [0 4] 2"
	play(t, c,
		done{api.ActLose, 3, workers + "; 1>0 5; 1>0 7; 1>0 3"},
		done{api.ActLose, 1, workers + "; 1>0 5; 1>0 3"},
		done{api.ActLose, 1, workers + "; 1>0 5"},
		done{api.ActLose, 0, workers},
		done{api.ActLose, 0, workers},
	)
}

func TestW3Twice(t *testing.T) {
	c := crewOf(t, net, 2)
	does(c, api.ActTwice, 0)
	does(c, api.ActWork, 1, 1)
	const workers = "[] [] [] [] 0 / [0 2 4 6 8] [2 6 8] [5 7 3] [0 4] 2; 1>0 5; 1>0 7; 1>0 3"
	play(t, c,
		done{api.ActTwice, 1, workers + "; 1>0 7"},
		done{api.ActTwice, 0, workers + "; 1>0 7; 1>0 5"},
		done{api.ActTwice, 5, workers + "; 1>0 7; 1>0 5"},
	)
}

func TestW3Carry(t *testing.T) {
	c := crewOf(t, net, 2)
	does(c, api.ActCarry, 0)
	does(c, api.ActWork, 1, 1)
	const one = " / [0 2 4 6 8] [2 6 8] [5 7 3] [0 4] 2"
	play(t, c,
		done{api.ActCarry, 3, "[] [] [] [] 0" + one + "; 1>0 5; 1>0 7; 1>0 3"},
		done{api.ActCarry, 1, "[7] [7] [] [] 1" + one + "; 1>0 5; 1>0 3"},
		done{api.ActCarry, 0, "[5 7] [7 5] [] [] 2" + one + "; 1>0 3"},
		done{api.ActAgain, 1, "[5 7] [7 5] [] [] 2" + one + "; 1>0 3; 1>0 5; 1>0 7; 1>0 3"},
		done{api.ActCarry, 2, "[5 7] [7 5] [] [] 2" + one + "; 1>0 3; 1>0 5; 1>0 3"}, // seen, but not for good: nothing is told
		done{api.ActSync, 0, "[5 7] [7 5] [] [5 7] 2" + one + "; 1>0 3; 1>0 5; 1>0 3"},
		done{api.ActCarry, 1, "[5 7] [7 5] [] [5 7] 2" + one + "; 1>0 3; 1>0 3; 0>1 back 5"}, // no tick
		done{api.ActCarry, 0, "[3 5 7] [7 5 3] [] [5 7] 3" + one + "; 1>0 3; 0>1 back 5"},
		done{api.ActCarry, 1, "[3 5 7] [7 5 3] [] [5 7] 3 / [0 2 4 6 8] [2 6 8] [7 3] [0 4] 2; 1>0 3"}, // no tick
	)
}

// What tells that a state has come is lost, sent twice and carried as any message, and comes to one that owes it no more.
func TestW3Back(t *testing.T) {
	c := crewOf(t, lamp, 2)
	does(c, api.ActWork, 1)
	does(c, api.ActCarry, 0)
	does(c, api.ActSync, 0)
	does(c, api.ActAgain, 1, 1)
	const zero = "[4] [4] [] [4] 1 / "
	play(t, c,
		done{api.ActCarry, 0, zero + "[0 5] [5] [4] [0] 1; 1>0 4; 0>1 back 4"},
		done{api.ActCarry, 0, zero + "[0 5] [5] [4] [0] 1; 0>1 back 4; 0>1 back 4"},
		done{api.ActTwice, 1, zero + "[0 5] [5] [4] [0] 1; 0>1 back 4; 0>1 back 4; 0>1 back 4"},
		done{api.ActLose, 0, zero + "[0 5] [5] [4] [0] 1; 0>1 back 4; 0>1 back 4"},
		done{api.ActCarry, 1, zero + "[0 5] [5] [] [0] 1; 0>1 back 4"},
		done{api.ActCarry, 0, zero + "[0 5] [5] [] [0] 1"},
	)
}

// A state that another one owns is told to have come to the one that sent it, not to others.
func TestW3BackToTheSender(t *testing.T) {
	c := crewOf(t, "module M variable n in 0 .. 9 init n in {0, 1, 2} action A == n < 2 and n' in {2, 9}", 3) // of 0, 1, 2, 9 the owners are 0, 1, 2, 2
	does(c, api.ActWork, 0, 1)
	const workers = "[0] [] [2 9] [0] 1 / [1] [] [2 9] [1] 1 / "
	play(t, c,
		done{api.ActCarry, 3, workers + "[2 9] [2 9] [] [2] 1; 0>2 2; 0>2 9; 1>2 2"},
		done{api.ActCarry, 1, workers + "[2 9] [2 9] [] [2] 1; 0>2 2; 1>2 2"},
		done{api.ActCarry, 1, workers + "[2 9] [2 9] [] [2] 1; 0>2 2; 2>1 back 2"},
		done{api.ActCarry, 0, workers + "[2 9] [2 9] [] [2] 1; 2>1 back 2; 2>0 back 2"},
		done{api.ActCarry, 1, "[0] [] [9] [0] 1 / [1] [] [2 9] [1] 1 / [2 9] [2 9] [] [2] 1; 2>1 back 2"},
	)
}

func TestW2W3NoSuch(t *testing.T) {
	c := crewOf(t, net, 2)
	does(c, api.ActWork, 1)
	want := shown(c.View())
	for kind := api.ActWork; kind <= api.ActAsk; kind++ {
		does(c, kind, numbers...)
		does(c, kind, 2)
	}
	for _, kind := range append([]int{0, api.ActNobody, 10, -2, -8}, numbers...) {
		if kind != api.ActAsk {
			does(c, kind, append([]int{0, 1}, numbers...)...)
		}
	}
	is(t, c, want)
}

// settled is a crew of two over Lamp of which both are quiet, but nobody was asked.
func settled(t *testing.T) *crew.Crew {
	t.Helper()
	c := crewOf(t, lamp, 2)
	does(c, api.ActWork, 1, 1)
	does(c, api.ActCarry, 0)
	does(c, api.ActWork, 0)
	does(c, api.ActSync, 0, 1)
	does(c, api.ActAgain, 1)
	does(c, api.ActCarry, 0, 0, 0, 0)
	is(t, c, "[4] [] [] [4] 2 / [0 5] [] [] [0 5] 2")
	return c
}

// asks asks workers in order; it is done just behind the last one, or not at all.
func asks(t *testing.T, c *crew.Crew, done bool, workers ...int) {
	t.Helper()
	for i, a := range workers {
		does(c, api.ActAsk, a)
		if want := done && i == len(workers)-1; c.Done() != want || c.View().Done != want {
			t.Fatalf("behind asking %v: Done %v, want %v", workers[:i+1], c.Done(), want)
		}
	}
}

func TestW4TwoRounds(t *testing.T) {
	asks(t, settled(t), true, 0, 1, 0, 1)
	asks(t, settled(t), true, 0, 1, 1, 0)
	asks(t, settled(t), true, 1, 1, 1, 0, 1, 1, 1, 0)
	asks(t, settled(t), false, 1, 1, 1, 1, 1, 1)
	asks(t, settled(t), false, 0, 1, 0)
	alone := crewOf(t, "module M init false", 1)
	asks(t, alone, true, 0, 0)
	asks(t, crewOf(t, "module M init false", 8), true, 7, 6, 5, 4, 3, 2, 1, 0, 0, 1, 2, 3, 4, 5, 6, 7)
}

// Asked once more in a round, a worker is not heard, though it is quiet by then.
func TestW4FirstAnswerCounts(t *testing.T) {
	c := settled(t)
	does(c, api.ActCrash, 0)
	asks(t, c, false, 0)
	does(c, api.ActWork, 0)
	does(c, api.ActCarry, 0, 0)
	is(t, c, "[4] [] [] [4] 4 / [0 5] [] [] [0 5] 2")
	asks(t, c, false, 0, 1) // the end of a round in which worker 0 was not quiet
	asks(t, c, false, 0, 1)
	asks(t, c, true, 0, 1)
}

func TestW4Ticks(t *testing.T) {
	c := settled(t)
	asks(t, c, false, 0, 1)
	does(c, api.ActCrash, 0)
	does(c, api.ActWork, 0)
	does(c, api.ActCarry, 0, 0)
	asks(t, c, false, 0, 1) // quiet again, but with another tick
	asks(t, c, true, 1, 0)
}

// A round of which it is not so that all are quiet is forgotten behind the next one.
func TestW4JustAhead(t *testing.T) {
	c := settled(t)
	asks(t, c, false, 0, 1)
	does(c, api.ActCrash, 1)
	asks(t, c, false, 0, 1)
	does(c, api.ActWork, 1, 1)
	does(c, api.ActCarry, 0, 0)
	asks(t, c, false, 0, 1, 0)
	asks(t, c, true, 1)
}

// What is to be quiet: the queue, what is owed, and what is there for good.
func TestW4Quiet(t *testing.T) {
	queue := crewOf(t, "module M variable n in 0 .. 9 init n = 0", 1)
	asks(t, queue, false, 0, 0, 0)
	does(queue, api.ActWork, 0)
	asks(t, queue, true, 0, 0)

	owed := crewOf(t, "module M variable n in 0 .. 9 init n = 0 action A == n' = 1", 2)
	does(owed, api.ActWork, 1)
	does(owed, api.ActCarry, 0)
	does(owed, api.ActWork, 0)
	does(owed, api.ActSync, 0, 1)
	asks(t, owed, false, 0, 1, 0, 1, 0, 1)
	does(owed, api.ActAgain, 1)
	does(owed, api.ActCarry, 0, 0)
	asks(t, owed, false, 0, 1)
	asks(t, owed, true, 0, 1)

	good := crewOf(t, "module M variable n in 0 .. 9 init n = 0 action A == n' = 2", 2)
	does(good, api.ActWork, 1, 1)
	asks(t, good, false, 0, 1, 0, 1, 0, 1)
	does(good, api.ActSync, 1)
	asks(t, good, false, 0, 1)
	asks(t, good, true, 0, 1)
}

// What counts is what was told, not what is so when the round ends; and messages under way do not matter.
func TestW4AsTold(t *testing.T) {
	c := settled(t)
	asks(t, c, false, 0, 1, 0)
	does(c, api.ActCrash, 0)
	does(c, api.ActWork, 0)
	is(t, c, "[4] [] [0] [4] 4 / [0 5] [] [] [0 5] 2; 0>1 0")
	asks(t, c, true, 1)
}

func TestW4ForEver(t *testing.T) {
	c := settled(t)
	asks(t, c, true, 0, 1, 0, 1)
	does(c, api.ActCrash, 0, 1)
	does(c, api.ActAsk, 0, 1, 0, 1)
	is(t, c, "[4] [4] [] [4] 3 / [0 5] [0 5] [] [0 5] 3; done")
}

// All that is lost of what was seen is found again, and nothing is done ahead of that.
func TestW5Lost(t *testing.T) {
	c := crewOf(t, net, 2)
	does(c, api.ActWork, 1, 1, 1, 1, 1)
	does(c, api.ActLose, 0, 0, 0)
	does(c, api.ActSync, 0, 1)
	asks(t, c, false, 0, 1, 0, 1, 0, 1)
	does(c, api.ActAgain, 1)
	does(c, api.ActCarry, 0, 0, 0)
	does(c, api.ActWork, 0, 0, 0, 0)
	asks(t, c, false, 0, 1, 0, 1, 0, 1)
	does(c, api.ActCrash, 0)
	does(c, api.ActLose, 0)
	asks(t, c, false, 0, 1, 0, 1, 0, 1)
	c.Finish()
	for _, w := range []int{0, 1} {
		does(c, api.ActCrash, w)
	}
	is(t, c, "[3 5 7 9] [3 5 7 9] [] [3 5 7 9] 16 / [0 2 4 6 8] [0 2 4 6 8] [] [0 2 4 6 8] 6; done")
}

func TestW6Table(t *testing.T) {
	c := crewOf(t, lamp, 2)
	c.Finish()
	is(t, c, "[4] [] [] [4] 2 / [0 5] [] [] [0 5] 2; done")
}

// It goes on from where it stands, the round that was begun among it; and it does nothing where it is done.
func TestW6FromAnywhere(t *testing.T) {
	c := settled(t)
	does(c, api.ActAsk, 0, 1, 0)
	does(c, api.ActCrash, 0)
	c.Finish()
	is(t, c, "[4] [] [] [4] 4 / [0 5] [] [] [0 5] 2; done")

	does(c, api.ActCrash, 1)
	does(c, api.ActWork, 1)
	const want = "[4] [] [] [4] 4 / [0 5] [5] [4] [0 5] 4; 1>0 4; done"
	is(t, c, want)
	c.Finish()
	is(t, c, want)
}

func TestW6Nothing(t *testing.T) {
	c := crewOf(t, "module M init false", 2)
	c.Finish()
	is(t, c, "[] [] [] [] 0 / [] [] [] [] 0; done")
}

// What is under way is lost first, and sent anew.
func TestW6UnderWay(t *testing.T) {
	c := crewOf(t, net, 2)
	does(c, api.ActWork, 1)
	does(c, api.ActTwice, 0, 1)
	c.Finish()
	is(t, c, "[3 5 7 9] [] [] [3 5 7 9] 7 / [0 2 4 6 8] [] [] [0 2 4 6 8] 5; done")
}

// A great module: all states lead to many others, with as many workers as may be.
func TestW6Great(t *testing.T) {
	const text = `module M variable a in 0 .. 15 variable b in 0 .. 15 variable c in 0 .. 15 init a = 0 and b = 0 and c = 0
		action A == unchanged a and unchanged b action B == unchanged a and unchanged c action C == unchanged b and unchanged c`
	c := crewOf(t, text, api.MaxCrew)
	c.Finish()
	seen := 0
	for i, w := range c.View().Members {
		seen += len(w.Seen)
		for _, s := range w.Seen {
			if c.Owner(s) != i {
				t.Fatalf("%d has seen %d", i, s)
			}
		}
	}
	if seen != api.MaxSpace || !c.Done() {
		t.Errorf("%d seen, Done %v", seen, c.Done())
	}
}

func TestW7View(t *testing.T) {
	c := crewOf(t, net, 2)
	does(c, api.ActWork, 1)
	does(c, api.ActCarry, 1)
	got := fmt.Sprintf("%+v", c.View())
	const want = "{Members:[{Seen:[7] Queue:[7] Owed:[] Synced:[] Tick:1} {Seen:[0 2 4 6] Queue:[4 2 6] Owed:[5 7] Synced:[0 4] Tick:1}] Packets:[{From:1 To:0 Back:false State:5}] Done:false}"
	if got != want {
		t.Errorf("got  %s\nwant %s", got, want)
	}
}

// What is shown is the caller's: neither what he writes into it nor what is done later goes from the one to the other.
func TestP2ViewIsTheCallers(t *testing.T) {
	c := crewOf(t, net, 2)
	does(c, api.ActWork, 1)
	does(c, api.ActCarry, 0)
	does(c, api.ActTwice, 0)
	first, second := c.View(), c.View()
	want := shown(first)
	for _, w := range first.Members {
		for _, list := range [][]int{w.Seen, w.Queue, w.Owed, w.Synced} {
			for i := range list {
				list[i] = 99
			}
			_ = append(list, 98, 97)
		}
	}
	for i := range first.Packets {
		first.Packets[i] = api.Packet{State: 96}
	}
	_ = append(first.Packets, api.Packet{State: 95})
	first.Members[0] = api.Member{}
	is(t, c, want)
	does(c, api.ActCarry, 0)
	does(c, api.ActWork, 0, 1, 0, 1)
	does(c, api.ActCrash, 1)
	if got := shown(second); got != want {
		t.Errorf("got  %s\nwant %s", got, want)
	}
}

// Two crews over one module know nothing of each other.
func TestP2Apart(t *testing.T) {
	m := made(t, net)
	a, _ := crew.New(m, 2)
	b, _ := crew.New(m, 2)
	a.Finish()
	is(t, b, "[] [] [] [] 0 / [0 4] [0 4] [] [0 4] 0")
}
