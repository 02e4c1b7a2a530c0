package kinds

import (
	"maps"
	"slices"

	"sextant/tree"
	"sextant/word"
)

// elements tells of which kind the elements of a set are; false, if the kind is no set's.
func (t *table) elements(k kind) (kind, bool) {
	return t.within(k, setOf)
}

// items tells of which kind the elements of a sequence are; false, if the kind is no sequence's.
func (t *table) items(k kind) (kind, bool) {
	return t.within(k, seqOf)
}

func (t *table) within(k kind, b build) (kind, bool) {
	s := t.shapes[k]
	return s.one, k == none || s.build == b // of none it is none
}

// ends tells from which kind to which a function goes; false, if the kind is no function's.
func (t *table) ends(k kind) (from, to kind, ok bool) {
	switch s := t.shapes[k]; {
	case s.build == seqOf:
		return integer, s.one, true
	case s.build == funOf:
		return s.one, s.two, true
	}
	return none, none, k == none
}

func (t *table) isRec(k kind) bool {
	return t.shapes[k].build == recOf
}

// all tells whether kinds are all one, and gives what comes of that.
func all(kinds []kind, needed, comes kind) (kind, bool) {
	for _, k := range kinds {
		if k != needed && k != none {
			return none, false
		}
	}
	return comes, true
}

// comes tells the kind of an expression, by those of its parts; false, if what it needs is not so (K5).
func (t *table) comes(e *tree.Expr, of []kind) (kind, bool) {
	switch e.Sort {
	case tree.Time:
		return all(of, boolean, boolean)
	case tree.If:
		joined, ok := t.join(of[1], of[2])
		_, asked := all(of[:1], boolean, boolean)
		return joined, ok && asked
	case tree.Let:
		return of[1], true
	case tree.Bind:
		return t.ofBinder(e.Op, of[0], of[1])
	}
	if n := places(e.Op); n > 0 && n != len(of) {
		return none, false
	}
	return t.ofOperator(e, of)
}

// places tells how many parts stand in the brackets behind a word; 0, if there is no such word.
func places(op string) int {
	switch op {
	case "size", "len", "head", "tail", "values":
		return 1
	case "append", "seqs":
		return 2
	}
	return 0
}

// ofBinder tells what comes of going through a set.
func (t *table) ofBinder(op string, through, said kind) (kind, bool) {
	element, ok := t.elements(through)
	if !ok {
		return none, false
	}
	switch op {
	case "each":
		return t.set(said), true
	case "fun":
		return t.fun(element, said), true
	case "choose":
		return all([]kind{said}, boolean, element)
	case "those":
		return all([]kind{said}, boolean, t.set(element))
	}
	return all([]kind{said}, boolean, boolean)
}

func (t *table) ofOperator(e *tree.Expr, of []kind) (kind, bool) {
	switch e.Op {
	case "not", "and", "or", "implies", "iff":
		return all(of, boolean, boolean)
	case "<", "<=", ">", ">=":
		return all(of, integer, boolean)
	case "+", "-", "*", "/", "%", "neg":
		return all(of, integer, integer)
	case "..":
		return all(of, integer, t.set(integer))
	case "=", "/=":
		_, ok := t.join(of[0], of[1])
		return boolean, ok
	case "set":
		joined, ok := t.joinAll(of)
		return t.set(joined), ok
	case "seq":
		joined, ok := t.joinAll(of)
		return t.seq(joined), ok
	case "fun":
		return t.writtenOut(e.Parts, of)
	case "at":
		return t.asked(of[0], e.Parts[1], of[1])
	case "put":
		return t.changed(of[0], e.Parts[1], of[1], of[2])
	case "domain", "values":
		return t.ofFunction(e.Op, of[0])
	case "len", "head", "tail", "append", "++":
		return t.ofSequence(e.Op, of)
	}
	return t.ofSet(e.Op, of)
}

// ofSet tells what comes of sets.
func (t *table) ofSet(op string, of []kind) (kind, bool) {
	switch op {
	case "in":
		element, ok := t.elements(of[1])
		_, joins := t.join(of[0], element)
		return boolean, ok && joins
	case "subset":
		_, ok := t.joinSets(of)
		return boolean, ok
	case "union", "inter", "minus":
		return t.joinSets(of)
	case "->":
		from, ok := t.elements(of[0])
		to, also := t.elements(of[1])
		return t.set(t.fun(from, to)), ok && also
	}
	element, ok := t.elements(of[0])
	switch op {
	case "powerset":
		return t.set(t.set(element)), ok
	case "flatten":
		inner, also := t.elements(element)
		return t.set(inner), ok && also
	case "seqs":
		_, counts := all(of[1:], integer, integer)
		return t.set(t.seq(element)), ok && counts
	}
	return integer, ok // size
}

// joinSets tells what sets join to.
func (t *table) joinSets(of []kind) (kind, bool) {
	for _, k := range of {
		if _, ok := t.elements(k); !ok {
			return none, false
		}
	}
	return t.joinAll(of)
}

// ofSequence tells what comes of sequences.
func (t *table) ofSequence(op string, of []kind) (kind, bool) {
	item, ok := t.items(of[0])
	switch op {
	case "len":
		return integer, ok
	case "head":
		return item, ok
	case "tail":
		return t.seq(item), ok
	}
	other, also := of[1], true
	if op == "++" {
		other, also = t.items(other)
	}
	joined, joins := t.join(item, other)
	return t.seq(joined), ok && also && joins
}

// ofFunction tells of which kind the domain is, or what a function gives.
func (t *table) ofFunction(op string, f kind) (kind, bool) {
	if t.isRec(f) {
		if op == "domain" {
			return t.set(text), true
		}
		joined, ok := t.joinAll(t.contents(f))
		return t.set(joined), ok
	}
	from, to, ok := t.ends(f)
	if op == "domain" {
		return t.set(from), ok
	}
	return t.set(to), ok
}

// contents tells what the names of a rec have.
func (t *table) contents(rec kind) []kind {
	var kinds []kind
	for rec != nameless {
		s := t.shapes[rec]
		kinds = append(kinds, s.one)
		rec = s.two
	}
	return kinds
}

// writtenOut tells what comes of keys, each with its value behind it.
func (t *table) writtenOut(parts []*tree.Expr, of []kind) (kind, bool) {
	if named(parts) {
		return t.recOfFirst(parts, of), true
	}
	from, to := none, none
	for i := 0; i < len(of); i += 2 {
		var ok, also bool
		from, ok = t.join(from, of[i])
		to, also = t.join(to, of[i+1])
		if !ok || !also {
			return none, false
		}
	}
	return t.fun(from, to), true
}

// named tells whether all keys are texts that are names.
func named(parts []*tree.Expr) bool {
	for i := 0; i < len(parts); i += 2 {
		if key := parts[i]; key.Sort != tree.Text || !word.IsName(key.Name) {
			return false
		}
	}
	return true
}

// recOfFirst is the rec of names, each with the kind of the first value that it is given.
func (t *table) recOfFirst(parts []*tree.Expr, of []kind) kind {
	first := map[string]kind{}
	for i := 0; i < len(parts); i += 2 {
		if _, ok := first[parts[i].Name]; !ok {
			first[parts[i].Name] = of[i+1]
		}
	}
	rec := nameless
	for _, name := range slices.Backward(slices.Sorted(maps.Keys(first))) {
		rec = t.rec(name, first[name], rec)
	}
	return rec
}

// asked tells what a function gives a key.
func (t *table) asked(f kind, key *tree.Expr, of kind) (kind, bool) {
	if t.isRec(f) {
		return t.has(f, key)
	}
	from, to, ok := t.ends(f)
	_, joins := t.join(from, of)
	return to, ok && joins
}

// has tells what a rec has at a key, which is written as a text.
func (t *table) has(rec kind, key *tree.Expr) (kind, bool) {
	if key.Sort != tree.Text {
		return none, false
	}
	for rec != nameless {
		s := t.shapes[rec]
		if s.name == key.Name {
			return s.one, true
		}
		rec = s.two
	}
	return none, false
}

// changed tells what comes of giving a key another value.
func (t *table) changed(f kind, key *tree.Expr, of, value kind) (kind, bool) {
	had, ok := t.asked(f, key, of)
	if !ok {
		return none, false
	}
	joined, ok := t.join(had, value)
	switch s := t.shapes[f]; {
	case f == none:
		return none, ok
	case s.build == recOf:
		return t.having(f, key.Name, joined), ok
	case s.build == seqOf:
		return t.seq(joined), ok
	default:
		return t.fun(s.one, joined), ok
	}
}

// having is a rec that has another kind at a name of its own.
func (t *table) having(rec kind, name string, k kind) kind {
	s := t.shapes[rec]
	if s.name == name {
		return t.rec(name, k, s.two)
	}
	return t.rec(s.name, s.one, t.having(s.two, name, k))
}
