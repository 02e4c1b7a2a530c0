package crew

import (
	"slices"

	"sextant/api"
	"sextant/many"
)

// worker is what one of a crew has.
type worker struct {
	seen    many.Set
	forGood many.Set // of what it has seen, what a crash leaves
	queue   row[int]
	owed    row[int]
	owes    many.Set // the states of owed, as these are asked for at every step
	tick    int      // it goes up whenever the worker may have become unquiet
}

// find takes a state in that is to be gone through; false, if it was seen.
func (w *worker) find(s int) bool {
	if w.seen.Has(s) {
		return false
	}
	w.seen.Put(s)
	w.queue = append(w.queue, s)
	return true
}

// owe puts a state behind those that it owes; false, if it is among them.
func (w *worker) owe(s int) bool {
	if w.owes.Has(s) {
		return false
	}
	w.owes.Put(s)
	w.owed = append(w.owed, s)
	return true
}

// settle lets go of a state that has come where it belongs. It need not be owed any more.
func (w *worker) settle(s int) {
	if w.owes.Has(s) {
		w.owes.Drop(s)
		w.owed.take(slices.Index(w.owed, s))
	}
}

func (w *worker) crash() {
	*w = worker{seen: w.forGood, forGood: w.forGood, queue: list(w.forGood), tick: w.tick + 1}
}

// isQuiet tells whether there is nothing that it is still to do, or could lose.
func (w *worker) isQuiet() bool {
	return len(w.queue) == 0 && len(w.owed) == 0 && w.seen == w.forGood
}

func (w *worker) view() api.Member {
	return api.Member{
		Seen:   list(w.seen),
		Queue:  slices.Clone(w.queue),
		Owed:   slices.Clone(w.owed),
		Synced: list(w.forGood),
		Tick:   w.tick,
	}
}

func list(s many.Set) []int {
	return slices.Collect(s.All())
}
