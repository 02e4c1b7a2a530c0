package crew_test

import (
	"fmt"
	"math/rand"
	"slices"
	"strings"
	"testing"

	"sextant/api"
	"sextant/crew"
	"sextant/graph"
	"sextant/model"
	"sextant/step"
)

// oracle is a crew as the chapter's words have it, with nothing but lists.
type oracle struct {
	m       *model.Model
	members []api.Member // what was seen, and what is there for good, as it came
	packets []api.Packet
	rounds  []map[int]answer // the last one is not at its end
	done    bool
}

// answer is what a worker tells the chief.
type answer struct {
	quiet bool
	tick  int
}

func newOracle(m *model.Model, n int) *oracle {
	o := &oracle{m: m, members: make([]api.Member, n), rounds: []map[int]answer{{}}}
	for _, s := range step.Initial(m) {
		w := &o.members[o.owner(s)]
		w.Seen, w.Queue, w.Synced = append(w.Seen, s), append(w.Queue, s), append(w.Synced, s)
	}
	return o
}

func (o *oracle) owner(s int) int {
	return int(graph.Digest(o.m, s) % uint64(len(o.members)))
}

func (o *oracle) do(kind, a int) {
	switch kind {
	case api.ActWork, api.ActAgain, api.ActSync, api.ActCrash, api.ActAsk:
		if a >= 0 && a < len(o.members) {
			o.doWorker(kind, a)
		}
	case api.ActCarry, api.ActLose, api.ActTwice:
		if a >= 0 && a < len(o.packets) {
			o.doPacket(kind, a)
		}
	}
}

func (o *oracle) doWorker(kind, a int) {
	w := &o.members[a]
	switch kind {
	case api.ActWork:
		if len(w.Queue) == 0 {
			return
		}
		s := w.Queue[0]
		w.Queue = slices.Clone(w.Queue[1:])
		w.Tick++
		for _, t := range step.Next(o.m, s) {
			own := o.owner(t) == a
			if own && !slices.Contains(w.Seen, t) {
				w.Seen, w.Queue = append(w.Seen, t), append(w.Queue, t)
			}
			if !own && !slices.Contains(w.Owed, t) {
				w.Owed = append(w.Owed, t)
				o.packets = append(o.packets, api.Packet{From: a, To: o.owner(t), State: t})
			}
		}
	case api.ActAgain:
		for _, s := range w.Owed {
			o.packets = append(o.packets, api.Packet{From: a, To: o.owner(s), State: s})
		}
	case api.ActSync:
		w.Synced = slices.Clone(w.Seen)
	case api.ActCrash:
		slices.Sort(w.Synced)
		*w = api.Member{Seen: slices.Clone(w.Synced), Queue: slices.Clone(w.Synced), Synced: w.Synced, Tick: w.Tick + 1}
	case api.ActAsk:
		o.ask(a)
	}
}

func (o *oracle) doPacket(kind, a int) {
	p := o.packets[a]
	if kind == api.ActTwice {
		o.packets = append(o.packets, p)
		return
	}
	o.packets = slices.Delete(slices.Clone(o.packets), a, a+1)
	if kind == api.ActLose {
		return
	}
	w := &o.members[p.To]
	switch {
	case p.Back:
		w.Owed = slices.DeleteFunc(w.Owed, func(s int) bool { return s == p.State })
	case !slices.Contains(w.Seen, p.State):
		w.Seen, w.Queue, w.Tick = append(w.Seen, p.State), append(w.Queue, p.State), w.Tick+1
	case slices.Contains(w.Synced, p.State):
		o.packets = append(o.packets, api.Packet{From: p.To, To: p.From, Back: true, State: p.State})
	}
}

func (o *oracle) ask(a int) {
	now := o.rounds[len(o.rounds)-1]
	if _, ok := now[a]; ok {
		return
	}
	w := o.members[a]
	good := !slices.ContainsFunc(w.Seen, func(s int) bool { return !slices.Contains(w.Synced, s) })
	now[a] = answer{len(w.Queue) == 0 && len(w.Owed) == 0 && good, w.Tick}
	if len(now) < len(o.members) {
		return
	}
	if len(o.rounds) > 1 {
		all, ahead := true, o.rounds[len(o.rounds)-2]
		for i, told := range now {
			all = all && told.quiet && ahead[i].quiet && ahead[i].tick == told.tick
		}
		o.done = o.done || all
	}
	o.rounds = append(o.rounds, map[int]answer{})
}

func (o *oracle) finish() {
	each := func(kind int) {
		for a := range o.members {
			o.do(kind, a)
		}
	}
	for !o.done {
		for slices.ContainsFunc(o.members, func(w api.Member) bool { return len(w.Queue) > 0 }) {
			each(api.ActWork)
		}
		each(api.ActSync)
		o.packets = nil
		each(api.ActAgain)
		for len(o.packets) > 0 {
			o.do(api.ActCarry, 0)
		}
		each(api.ActAsk)
	}
}

func (o *oracle) view() api.View {
	v := api.View{Packets: o.packets, Done: o.done}
	for _, w := range o.members {
		w.Seen, w.Synced = slices.Sorted(slices.Values(w.Seen)), slices.Sorted(slices.Values(w.Synced))
		v.Members = append(v.Members, w)
	}
	return v
}

// drawn is the text of a module that goes from states to a few others each.
func drawn(r *rand.Rand) string {
	size := 1 + r.Intn(14)
	some := func(chances int) string {
		var list []string
		for s := range size {
			if r.Intn(100) < chances {
				list = append(list, fmt.Sprint(s))
			}
		}
		return "{" + strings.Join(list, ", ") + "}"
	}
	text := fmt.Sprintf("module Drawn\nvariable n in 0 .. %d\ninit n in %s\naction A == false", size-1, some(20))
	crowd := 5 + r.Intn(30)
	for s := range size {
		text += fmt.Sprintf(" or n = %d and n' in %s", s, some(crowd))
	}
	return text
}

// both is a crew and an oracle to which the same is done.
type both struct {
	t    *testing.T
	r    *rand.Rand
	text string
	crew *crew.Crew
	*oracle
	reached []int
	acts    []api.Act
}

func newBoth(t *testing.T, r *rand.Rand) *both {
	t.Helper()
	b := &both{t: t, r: r, text: drawn(r)}
	m, n := made(t, b.text), 1+r.Intn(1+r.Intn(api.MaxCrew))
	c, err := crew.New(m, n)
	if err != nil {
		t.Fatal(err)
	}
	b.crew, b.oracle, b.reached = c, newOracle(m, n), graph.Reached(m)
	b.look()
	return b
}

// act does an act to both, and holds them against each other.
func (b *both) act(kind, a int) {
	b.t.Helper()
	b.acts = append(b.acts, api.Act{Kind: kind, A: a})
	b.crew.Do(api.Act{Kind: kind, A: a})
	b.do(kind, a)
	b.look()
}

// look holds both against each other, and against what W5 says.
func (b *both) look() {
	b.t.Helper()
	v := b.crew.View()
	if got, want := shown(v), shown(b.view()); got != want || v.Done != b.crew.Done() {
		b.t.Fatalf("%s\n%d workers, acts %v:\ngot  %s\nwant %s", b.text, len(b.members), b.acts, got, want)
	}
	var seen []int
	for i, w := range v.Members {
		for _, s := range w.Seen {
			if b.crew.Owner(s) != i || !slices.Contains(b.reached, s) {
				b.t.Fatalf("%s\nacts %v: %d has seen %d", b.text, b.acts, i, s)
			}
		}
		seen = append(seen, w.Seen...)
	}
	slices.Sort(seen)
	if v.Done && !slices.Equal(seen, b.reached) {
		b.t.Fatalf("%s\nacts %v: done, but seen is %v of %v", b.text, b.acts, seen, b.reached)
	}
}

// any does an act drawn at random; a number is now and then of nothing.
func (b *both) any(kinds []int) {
	b.t.Helper()
	kind := kinds[b.r.Intn(len(kinds))]
	a := b.r.Intn(len(b.members)+2) - 1
	if kind == api.ActCarry || kind == api.ActLose || kind == api.ActTwice {
		a = b.r.Intn(len(b.packets)+2) - 1
	}
	b.act(kind, a)
}

// Kinds of acts as often as they are drawn: on bad days more is lost than comes to anything.
var (
	goodDays = []int{1, 1, 1, 1, 2, 2, 2, 2, 5, 6, 6, 8, 8, 8, 8, 8, 8}
	badDays  = []int{1, 1, 1, 2, 2, 2, 3, 3, 4, 5, 6, 7, 7, 8, 8, 8, 8, 0, 9, -1}
)

func TestW2W3W4Random(t *testing.T) {
	r := rand.New(rand.NewSource(1))
	doneAt, backs := 0, 0
	for range 500 {
		b := newBoth(t, r)
		for _, days := range [][]int{goodDays, badDays, goodDays, badDays, goodDays} {
			for range r.Intn(200) {
				b.any(days)
				if n := len(b.packets); n > 0 && b.packets[n-1].Back {
					backs++
				}
			}
		}
		if b.done && len(b.reached) > 1 && len(b.members) > 1 {
			doneAt++
		}
	}
	if doneAt < 50 || backs < 1000 {
		t.Errorf("seldom done, %d, or told to have come, %d", doneAt, backs)
	}
}

// Done, it stays so, and all stays seen, whatever happens.
func TestW5W6Random(t *testing.T) {
	r := rand.New(rand.NewSource(2))
	for range 500 {
		b := newBoth(t, r)
		for range r.Intn(100) {
			b.any(badDays)
		}
		b.crew.Finish()
		b.finish()
		b.look()
		if !b.crew.Done() {
			t.Fatalf("%s\nacts %v: not done", b.text, b.acts)
		}
		for range 60 {
			b.any(badDays)
		}
		b.crew.Finish()
		b.look()
		if !b.crew.Done() {
			t.Fatalf("%s\nacts %v: done no more", b.text, b.acts)
		}
	}
}
