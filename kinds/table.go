package kinds

import (
	"maps"
	"math"
	"slices"
	"strings"
)

// kind is a kind's number in its table: the same kind has the same number, as a module can name kinds that are far too long to be gone through.
type kind int

// The kinds that all tables begin with.
const (
	none kind = iota
	boolean
	integer
	text
	atom
	nameless // the rec of no names, which ends all others and stands nowhere else
)

// build is how a kind is built.
type build int

const (
	plain build = iota
	setOf
	seqOf
	funOf
	recOf
)

// shape is a kind, by the kinds that it is made of.
type shape struct {
	build build
	name  string // of a plain kind its own; of a rec the first one
	one   kind   // of the elements; of a domain; of what a rec's first name has
	two   kind   // of what a function gives; the rec of the other names
}

// table has the kinds that were made so far.
type table struct {
	shapes  []shape
	lengths []int // of the kinds as text
	numbers map[shape]kind
	joins   map[[2]kind]joint
}

// joint is what two kinds join to, if they do.
type joint struct {
	kind kind
	ok   bool
}

func newTable() *table {
	t := &table{numbers: map[shape]kind{}, joins: map[[2]kind]joint{}}
	for _, name := range []string{"none", "bool", "int", "text", "atom", "rec()"} {
		t.number(shape{build: plain, name: name})
	}
	return t
}

// clone is a table of the same kinds; what is made in one of them is not in the other.
func (t *table) clone() *table {
	return &table{slices.Clone(t.shapes), slices.Clone(t.lengths), maps.Clone(t.numbers), maps.Clone(t.joins)}
}

// number finds the kind of a shape, or makes it.
func (t *table) number(s shape) kind {
	if k, ok := t.numbers[s]; ok {
		return k
	}
	k := kind(len(t.shapes))
	t.numbers[s] = k
	t.shapes = append(t.shapes, s)
	t.lengths = append(t.lengths, min(t.length(s), tooLong))
	return k
}

func (t *table) set(of kind) kind {
	return t.number(shape{build: setOf, one: of})
}

func (t *table) seq(of kind) kind {
	return t.number(shape{build: seqOf, one: of})
}

func (t *table) fun(from, to kind) kind {
	return t.number(shape{build: funOf, one: from, two: to})
}

// rec is a rec, with one name more, which comes ahead of all that it has.
func (t *table) rec(name string, of, others kind) kind {
	return t.number(shape{build: recOf, name: name, one: of, two: others})
}

// join tells what two kinds join to, and whether they do.
func (t *table) join(a, b kind) (kind, bool) {
	switch {
	case a == b, b == none:
		return a, true
	case a == none:
		return b, true
	}
	pair := [2]kind{a, b}
	j, known := t.joins[pair]
	if !known {
		j = t.joinShapes(t.shapes[a], t.shapes[b])
		t.joins[pair] = j
	}
	return j.kind, j.ok
}

// joinShapes joins two kinds that are not the same, part by part.
func (t *table) joinShapes(a, b shape) joint {
	switch {
	case a.build == seqOf && b.build == funOf:
		a = asFun(a)
	case a.build == funOf && b.build == seqOf:
		b = asFun(b)
	}
	if a.build != b.build || a.name != b.name {
		return joint{}
	}
	one, ok := t.join(a.one, b.one)
	if !ok {
		return joint{}
	}
	two, ok := t.join(a.two, b.two)
	if !ok {
		return joint{}
	}
	return joint{t.number(shape{a.build, a.name, one, two}), true}
}

// asFun is the function that a sequence is, too.
func asFun(seq shape) shape {
	return shape{build: funOf, one: integer, two: seq.one}
}

// joinAll joins any number of kinds.
func (t *table) joinAll(kinds []kind) (kind, bool) {
	joined, ok := none, true
	for _, k := range kinds {
		if joined, ok = t.join(joined, k); !ok {
			return none, false
		}
	}
	return joined, true
}

// The words of kinds as text.
const (
	setWords = "set of "
	seqWords = "seq of "
	funWords = "fun "
	toWords  = " to "
	recWords = "rec("
	recEnd   = ")"
	ofName   = ": "
	another  = ", "
)

// tooLong is more bytes than any text may have that is answered (P6).
const tooLong = math.MaxInt32 + 1

// length tells how many bytes a kind has as text.
func (t *table) length(s shape) int {
	switch s.build {
	case setOf:
		return len(setWords) + t.lengths[s.one]
	case seqOf:
		return len(seqWords) + t.lengths[s.one]
	case funOf:
		return len(funWords) + t.lengths[s.one] + len(toWords) + t.lengths[s.two]
	case recOf:
		n := len(s.name) + len(ofName) + t.lengths[s.one] + t.lengths[s.two]
		if s.two != nameless {
			n += len(another)
		}
		return n
	}
	return len(s.name)
}

// show writes a kind as text; false, if that is too long to be answered.
func (t *table) show(k kind) (string, bool) {
	if t.lengths[k] >= tooLong {
		return "", false
	}
	var w strings.Builder
	w.Grow(t.lengths[k])
	t.write(&w, k)
	return w.String(), true
}

func (t *table) write(w *strings.Builder, k kind) {
	switch s := t.shapes[k]; s.build {
	case plain:
		w.WriteString(s.name)
	case setOf:
		w.WriteString(setWords)
		t.write(w, s.one)
	case seqOf:
		w.WriteString(seqWords)
		t.write(w, s.one)
	case funOf:
		w.WriteString(funWords)
		t.write(w, s.one)
		w.WriteString(toWords)
		t.write(w, s.two)
	case recOf:
		w.WriteString(recWords)
		t.writeNames(w, s)
		w.WriteString(recEnd)
	}
}

// writeNames writes what stands within the brackets of a rec.
func (t *table) writeNames(w *strings.Builder, s shape) {
	w.WriteString(s.name)
	w.WriteString(ofName)
	t.write(w, s.one)
	if s.two != nameless {
		w.WriteString(another)
		t.writeNames(w, t.shapes[s.two])
	}
}
