package kinds

import (
	"maps"

	"sextant/api"
	"sextant/tree"
)

// module looks at a module, declaration by declaration, up to the first fault.
func (l *looker) module(m *tree.Module) *fault {
	for _, d := range m.Declarations {
		if wrong := l.declaration(d); wrong != nil {
			return wrong
		}
	}
	return l.toldApart()
}

func (l *looker) declaration(d tree.Declaration) *fault {
	switch d.Word {
	case "symmetric":
		return l.symmetric(d.Ident)
	case "fair":
		return l.fair(d.Ident)
	}
	if wrong := l.taken(d); wrong != nil {
		return wrong
	}
	if d.Word == "atoms" {
		l.declareAtoms(d)
		return nil
	}
	if l.full(d.Word) {
		return &fault{d.Ident.At, api.ErrFull}
	}
	return l.expression(d)
}

// taken looks for a name of a declaration that stands for something already (K1).
func (l *looker) taken(d tree.Declaration) *fault {
	if d.Word == "init" {
		return nil
	}
	ours := map[string]int{}
	for _, n := range append([]tree.Ident{d.Ident}, d.Names...) {
		if l.declared[n.Name] != nil || ours[n.Name] > 0 {
			return &fault{n.At, api.ErrName}
		}
		ours[n.Name]++
	}
	return nil
}

func (l *looker) symmetric(n tree.Ident) *fault {
	t := l.declared[n.Name]
	if t == nil || t.role != atoms || t.family.symmetric {
		return &fault{n.At, api.ErrName}
	}
	t.family.symmetric = true
	for i := range t.family.size {
		if l.turns *= i + 1; l.turns > api.MaxTurns {
			return &fault{n.At, api.ErrFull}
		}
	}
	return nil
}

func (l *looker) fair(n tree.Ident) *fault {
	if t := l.declared[n.Name]; t == nil || t.role != action {
		return &fault{n.At, api.ErrName}
	}
	return nil
}

// declareAtoms declares a set of atoms, and each of them.
func (l *looker) declareAtoms(d tree.Declaration) {
	f := &family{number: len(l.families), size: len(d.Names)}
	l.families = append(l.families, f)
	l.named = append(l.named, nowhere)
	l.declared[d.Ident.Name] = &thing{role: atoms, family: f, fact: fact{kind: l.set(atom), cost: 1}}
	for _, n := range d.Names {
		l.declared[n.Name] = &thing{role: oneAtom, family: f, fact: fact{kind: atom, cost: 1}}
	}
}

// full counts what there may not be any number of, and tells whether there is one too many.
func (l *looker) full(declared string) bool {
	switch declared {
	case "variable":
		l.variables++
		return l.variables > api.MaxVars
	case "action":
		l.actions++
		return l.actions > api.MaxActions
	}
	return false
}

// expression looks at the expression of a declaration, and gives the name to what it declares.
func (l *looker) expression(d tree.Declaration) *fault {
	inner := names{}
	for _, n := range d.Names {
		inner[n.Name] = boundTo(none)
	}
	f, wrong := l.look(d.Expr, &scope{&scope{own: l.declared}, inner})
	if wrong != nil {
		return wrong
	}
	if err := l.misfit(d, f); err != api.OK {
		return &fault{place(d), err}
	}
	if d.Word != "init" {
		l.declared[d.Ident.Name] = l.declare(d, f)
	}
	return nil
}

// place is where the faults of a declaration as a whole are.
func place(d tree.Declaration) int {
	if d.Word == "init" {
		return d.At
	}
	return d.Ident.At
}

// misfit tells what is wrong with an expression where it is declared.
func (l *looker) misfit(d tree.Declaration, f fact) api.Errno {
	switch {
	case f.level > highest(d.Word):
		return api.ErrLevel
	case !l.fits(d.Word, f.kind):
		return api.ErrKind
	case tooMuch(f), d.Word == "property" && signsOfTime(d.Expr) > api.MaxTime:
		return api.ErrFull
	}
	return api.OK
}

// highest is the highest level that what is declared may have.
func highest(declared string) int {
	switch declared {
	case "constant", "variable":
		return fixed
	case "init", "invariant":
		return ofState
	case "define", "action":
		return ofStep
	}
	return ofTime
}

// fits tells whether what is declared may be of a kind.
func (l *looker) fits(declared string, k kind) bool {
	switch declared {
	case "constant", "define":
		return true
	case "variable":
		_, ok := l.elements(k)
		return ok
	}
	return isTruth(k)
}

// isTruth tells whether what is of a kind may be asked whether it is so.
func isTruth(k kind) bool {
	return k == boolean || k == none
}

// tooMuch tells whether an expression costs too much, or has too many binders within one another.
func tooMuch(f fact) bool {
	return f.cost > api.MaxCost || f.deep > api.MaxBind
}

func signsOfTime(e *tree.Expr) int {
	n := 0
	for p := range e.All() {
		if p.Sort != tree.Time {
			continue
		}
		n++
		if p.Op == "leadsto" { // it stands for two: always, and eventually
			n++
		}
	}
	return n
}

// declare is what a declaration with such an expression gives its name to.
func (l *looker) declare(d tree.Declaration, f fact) *thing {
	named := fact{kind: f.kind, level: f.level, cost: 1 + f.cost, deep: f.deep}
	switch d.Word {
	case "constant":
		return &thing{role: constant, fact: fact{kind: f.kind, cost: 1}}
	case "variable":
		element, _ := l.elements(f.kind)
		return &thing{role: variable, fact: fact{kind: element, level: ofState, cost: 1}}
	case "action":
		named.kind = boolean
		return &thing{role: action, fact: named}
	case "invariant":
		named.kind = boolean
		return &thing{role: invariant, fact: named}
	case "property":
		return &thing{role: property}
	}
	t := &thing{role: definition, fact: named}
	if len(d.Names) > 0 {
		t.define = &define{d.Names, d.Expr, maps.Clone(l.declared)}
	}
	return t
}

// toldApart looks for the first place where an atom of a symmetric set is told apart from the others (K7).
func (l *looker) toldApart() *fault {
	at := nowhere
	for i, f := range l.families {
		if f.symmetric {
			at = min(at, l.named[i], l.choice)
		}
	}
	if at == nowhere {
		return nil
	}
	return &fault{at, api.ErrAtom}
}
