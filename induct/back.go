package induct

import "sextant/many"

// back is the states from which a way goes to one of which the invariant is not so.
type back struct {
	found  many.Set
	order  []int // the nearest first
	onward []int // by states: the one that is nearer by a step; none
}

// none is no state.
const none = -1

// back goes back, a step at a time, from all states of which the invariant is not so.
func (k *kept) back() *back {
	b := &back{}
	before := k.before()
	b.onward = make([]int, len(before))
	put := func(states many.Set, onward int) {
		for s := range states.All() {
			b.found.Put(s)
			b.onward[s] = onward
			b.order = append(b.order, s)
		}
	}
	put(k.All.Less(&k.Good), none)
	for at := 0; at < len(b.order); at++ {
		t := b.order[at]
		put(before[t].Less(&b.found), t)
	}
	return b
}

// before gives, by states, those from which a step goes there.
func (k *kept) before() []many.Set {
	var list []many.Set
	for range k.All.All() {
		list = append(list, many.Set{})
	}
	for s := range k.All.All() {
		for t := range k.Next(s).All() {
			list[t].Put(s)
		}
	}
	return list
}

// nearest is a shortest way from a state of a set to one of which the invariant is not so; none, if there is none.
func (b *back) nearest(set *many.Set) []int {
	for _, s := range b.order {
		if !set.Has(s) {
			continue
		}
		var way []int
		for ; s != none; s = b.onward[s] {
			way = append(way, s)
		}
		return way
	}
	return nil
}
