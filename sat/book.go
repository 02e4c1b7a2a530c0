package sat

import "slices"

// book has the clauses that are there while lines are gone through. What follows of them alone is kept on level 0 from line to line.
type book struct {
	*store
	sure  bool               // what follows of the clauses that are there is true on level 0, all of it and nothing else
	never bool               // .. or it is found that they cannot all be true
	same  map[string][]int32 // rows by their literals; nil, as long as no clause was asked for
}

// newBook makes a book of the clauses of a store.
func newBook(s *store) *book {
	return &book{store: s}
}

// settle finds what follows of the clauses, if that is not known.
func (b *book) settle() {
	if b.sure || b.never {
		return
	}
	b.forget(0)
	b.single = slices.DeleteFunc(b.single, func(row int32) bool { return b.rows[row] == nil })
	b.sure = b.begin()
	b.never = !b.sure
}

// mustBe tells whether it cannot be that all literals of a clause are false.
func (b *book) mustBe(c []lit) bool {
	b.settle()
	if b.never {
		return true
	}
	b.open()
	defer b.back(0)
	for _, l := range c {
		if !b.believe(l.opposite(), none) {
			return true
		}
	}
	return b.follow() != none
}

// add takes in a clause that must be.
func (b *book) add(c []lit) {
	// What is false on level 0 may be watched only if there is nothing else: so it comes last.
	slices.SortStableFunc(c, func(l, m lit) int { return int(b.truth[m]) - int(b.truth[l]) })
	row := b.store.add(c)
	if b.same != nil && row != none {
		b.note(row)
	}
	if !b.never && (len(c) == 1 || b.truth[c[1]] < 0) { // an empty one must be only where all cannot be
		b.sure = b.believe(c[0], row) && b.follow() == none
		b.never = !b.sure
	}
}

// drop takes away a clause that has just these literals, if there is one.
func (b *book) drop(c []lit) {
	if len(c) == 0 {
		if b.empty > 0 {
			b.empty--
			b.sure, b.never = false, false
		}
		return
	}
	b.gather()
	of := key(c)
	rows := b.same[of]
	if len(rows) == 0 {
		return
	}
	b.same[of] = rows[1:]
	if b.never || b.bears(rows[0]) {
		b.sure, b.never = false, false
	}
	b.rows[rows[0]] = nil
}

// gather puts all rows into the map, when one is asked for the first time: most proofs have no line by which a clause goes.
func (b *book) gather() {
	if b.same != nil {
		return
	}
	b.same = map[string][]int32{}
	for row := range b.rows {
		b.note(int32(row))
	}
}

// note puts a row into the map.
func (b *book) note(row int32) {
	c := slices.Clone(b.rows[row]) // the row's own order says what watches it
	slices.Sort(c)
	of := key(c)
	b.same[of] = append(b.same[of], row)
}

// key is a text for ascending literals, unlike for unlike ones.
func key(c []lit) string {
	text := make([]byte, 0, 4*len(c))
	for _, l := range c {
		text = append(text, byte(l), byte(l>>8), byte(l>>16), byte(l>>24))
	}
	return string(text)
}
