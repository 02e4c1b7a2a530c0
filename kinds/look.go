package kinds

import (
	"iter"

	"sextant/api"
	"sextant/tree"
)

// What the levels speak of.
const (
	fixed = iota
	ofState
	ofStep
	ofTime
)

// fact is what is known of an expression.
type fact struct {
	kind  kind
	level int
	cost  int
	deep  int // how many binders stand within one another
}

// fault is what is wrong, and where.
type fault struct {
	at  int
	err api.Errno
}

// looker looks at expressions over what a module declares.
type looker struct {
	*table
	declared  names
	families  []*family
	named     []int // by the numbers of families: the first place where an expression names one of the atoms
	turns     int   // in how many ways atoms can be exchanged
	variables int
	actions   int
	choice    int // the first place of a choose
}

func newLooker() *looker {
	return &looker{table: newTable(), declared: names{}, turns: 1, choice: nowhere}
}

// look tells what an expression is, or its first fault.
func (l *looker) look(e *tree.Expr, s *scope) (fact, *fault) {
	switch e.Sort {
	case tree.Number:
		return fact{kind: integer, cost: 1}, nil
	case tree.Text:
		return fact{kind: text, cost: 1}, nil
	case tree.Fixed:
		return fixedFact(e.Op), nil
	case tree.Name, tree.Primed, tree.Unchanged, tree.Enabled:
		return l.lookName(e, s)
	case tree.Call:
		return l.lookCall(e, s)
	case tree.Let, tree.Bind:
		return l.lookBinder(e, s)
	}
	facts, wrong := l.lookAll(e, s)
	if wrong != nil {
		return fact{}, wrong
	}
	return l.made(e, facts)
}

func fixedFact(word string) fact {
	if word == "nil" {
		return fact{kind: none, cost: 1}
	}
	return fact{kind: boolean, cost: 1}
}

// parts goes through what the parts of an expression are, or their faults, from the left; a part is looked at when it is asked for.
func (l *looker) parts(e *tree.Expr, s *scope) iter.Seq2[fact, *fault] {
	return func(yield func(fact, *fault) bool) {
		for _, p := range e.Parts {
			if !yield(l.look(p, s)) {
				return
			}
		}
	}
}

// lookAll tells what the parts of an expression are, or their first fault.
func (l *looker) lookAll(e *tree.Expr, s *scope) ([]fact, *fault) {
	facts := make([]fact, 0, len(e.Parts))
	for f, wrong := range l.parts(e, s) {
		if wrong != nil {
			return nil, wrong
		}
		facts = append(facts, f)
	}
	return facts, nil
}

// lookName looks at a name, with a sign behind it or a word ahead, or alone.
func (l *looker) lookName(e *tree.Expr, s *scope) (fact, *fault) {
	t := s.find(e.Name)
	if t == nil || !mayStand(t, e.Sort) {
		return fact{}, &fault{e.At, api.ErrName}
	}
	if t.role == oneAtom {
		l.named[t.family.number] = min(l.named[t.family.number], e.At)
	}
	f := t.fact
	switch e.Sort {
	case tree.Primed:
		f.level = ofStep
	case tree.Unchanged:
		f.kind, f.level = boolean, ofStep
	case tree.Enabled:
		f.level = ofTime
	}
	return f, nil
}

// mayStand tells whether what a name stands for may be spoken of so (K3).
func mayStand(t *thing, sort tree.Sort) bool {
	switch sort {
	case tree.Primed, tree.Unchanged:
		return t.role == variable
	case tree.Enabled:
		return t.role == action
	}
	return t.role != property && t.define == nil
}

// lookCall looks at a call: at the name, at its parts, then at what the definition says of parts of these kinds.
func (l *looker) lookCall(e *tree.Expr, s *scope) (fact, *fault) {
	t := s.find(e.Name)
	if t == nil || t.define == nil {
		return fact{}, &fault{e.At, api.ErrName}
	}
	facts, wrong := l.lookAll(e, s)
	if wrong != nil {
		return fact{}, wrong
	}
	f := sum(facts)
	if f.level == ofTime {
		return fact{}, &fault{e.At, api.ErrLevel}
	}
	said, ok := l.called(t.define, facts)
	if !ok {
		return fact{}, &fault{e.At, api.ErrKind}
	}
	f.kind = said.kind
	f.level = max(f.level, said.level)
	f.cost += said.cost
	f.deep = max(f.deep, said.deep)
	return f, nil
}

// called looks at a definition's expression, where it was declared, with kinds for its names; false, if that has a fault.
func (l *looker) called(d *define, parts []fact) (fact, bool) {
	if len(parts) != len(d.names) {
		return fact{}, false
	}
	given := names{}
	for i, n := range d.names {
		given[n.Name] = boundTo(parts[i].kind)
	}
	f, wrong := l.look(d.expr, &scope{&scope{own: d.ahead}, given})
	return f, wrong == nil
}

// lookBinder looks at what binds a name: at the part ahead of the colon, at the name, at the part behind.
func (l *looker) lookBinder(e *tree.Expr, s *scope) (fact, *fault) {
	if e.Op == "choose" {
		l.choice = min(l.choice, e.At)
	}
	ahead, wrong := l.look(e.Parts[0], s)
	if wrong != nil {
		return fact{}, wrong
	}
	if s.find(e.Name) != nil {
		return fact{}, &fault{e.At, api.ErrName}
	}
	named := ahead.kind
	if e.Sort == tree.Bind {
		named, _ = l.elements(named) // where there are none, that is told behind the faults of the part behind
	}
	behind, wrong := l.look(e.Parts[1], s.with(e.Name, named))
	if wrong != nil {
		return fact{}, wrong
	}
	if e.Sort == tree.Bind {
		behind.deep++
	}
	return l.made(e, []fact{ahead, behind})
}

// made tells what an expression is, by what its parts are; or its own fault.
func (l *looker) made(e *tree.Expr, parts []fact) (fact, *fault) {
	f := sum(parts)
	if f.level == ofTime && !timely(e) {
		return fact{}, &fault{e.At, api.ErrLevel}
	}
	if e.Sort == tree.Time {
		f.level = ofTime
	}
	kinds := make([]kind, 0, len(parts))
	for _, p := range parts {
		kinds = append(kinds, p.kind)
	}
	k, ok := l.comes(e, kinds)
	if !ok {
		return fact{}, &fault{e.At, api.ErrKind}
	}
	f.kind = k
	return f, nil
}

// sum is what an expression is, as far as it is made of its parts whatever they are.
func sum(parts []fact) fact {
	f := fact{cost: 1}
	for _, p := range parts {
		f.level = max(f.level, p.level)
		f.cost += p.cost
		f.deep = max(f.deep, p.deep)
	}
	return f
}

// timely tells whether what speaks of all that comes may be a part of an expression.
func timely(e *tree.Expr) bool {
	switch e.Op {
	case "not", "and", "or", "implies", "iff":
		return e.Sort == tree.Operator
	}
	return e.Sort == tree.Time
}
