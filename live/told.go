package live

import (
	"sextant/api"
	"sextant/model"
)

// told is what a property is on a step, for all that may be said at the place behind it at once: bit j of each word is for j being said there. What is said is a number that has, for each sign of time, a bit that tells whether it is so.
type told struct {
	signs int                 // how many signs of time there are
	so    [api.MaxTime]uint64 // whether each is so
	met   [api.MaxTime]uint64 // whether each is not put off: it is not so, or what it waits for is here
	whole uint64              // whether the property is so
}

// said has for each sign of time the bits j of which j says that it is so.
var said = [api.MaxTime]uint64{
	0xaaaaaaaaaaaaaaaa, 0xcccccccccccccccc, 0xf0f0f0f0f0f0f0f0, 0xff00ff00ff00ff00, 0xffff0000ffff0000, 0xffffffff00000000,
}

const everywhere = ^uint64(0)

// tells is what a property is on a step on which its parts that have no sign of time are so or not.
func tells(property model.Formula, so func(model.Formula) bool) told {
	var t told
	t.whole = t.word(property, so)
	return t
}

func (t *told) word(f model.Formula, so func(model.Formula) bool) uint64 {
	if len(f.Parts) == 0 {
		if so(f) {
			return everywhere
		}
		return 0
	}
	p := t.word(f.Parts[0], so)
	q := p
	if len(f.Parts) > 1 {
		q = t.word(f.Parts[1], so)
	}
	switch f.Op {
	case "not":
		return ^p
	case "and":
		return p & q
	case "or":
		return p | q
	case "implies":
		return ^p | q
	case "iff":
		return ^(p ^ q)
	case "always":
		return ^t.until(everywhere, ^p)
	case "eventually":
		return t.until(everywhere, p)
	}
	return t.until(p, q)
}

// until is what p until q is: so where q is, or where p is and it is so behind. (That q is not put off for ever, no step can tell.) All signs of time are such ones, or not such ones. It takes the next number, as the signs are come to in the same order on all steps.
func (t *told) until(p, q uint64) uint64 {
	u := q | p&said[t.signs]
	t.so[t.signs] = u
	t.met[t.signs] = q | ^u
	t.signs++
	return u
}

// rule is what was told, for going on from the place that is ahead.
type rule struct {
	behind []uint64 // of what is said here: what may be said behind, a bit each
	met    []int    // of what is said behind: which signs of time are not put off here, a bit each
	wrong  uint64   // what may be said behind where the property is not so here
}

func newRule(t told) rule {
	size := 1 << t.signs
	r := rule{make([]uint64, size), make([]int, size), ^t.whole & (1<<size - 1)}
	for behind := range size {
		here := across(t.so[:t.signs], behind)
		r.behind[here] |= 1 << behind
		r.met[behind] = across(t.met[:t.signs], behind)
	}
	return r
}

// across takes a bit of each word.
func across(words []uint64, bit int) int {
	n := 0
	for i, w := range words {
		n |= int(w>>bit&1) << i
	}
	return n
}
