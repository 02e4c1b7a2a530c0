package model

import (
	"slices"

	"sextant/few"
	"sextant/tree"
)

// Part is one of what stands outermost in an expression between `and` (O1).
type Part struct {
	Term   Term
	Speaks few.Set // the variables that it speaks of, by their numbers
	Keeps  bool    // it is `unchanged` with one of them, and nothing else
}

// ActionParts gives the parts of an action, in order; none, if there is no such action.
func (m *Model) ActionParts(i int) []Part {
	if i < 0 || i >= len(m.actions) {
		return nil
	}
	return slices.Clone(m.actions[i].parts)
}

// InvariantParts gives the parts of an invariant, in order; none, if there is no such invariant.
func (m *Model) InvariantParts(name string) []Part {
	for _, i := range m.invariants {
		if i.name == name {
			return slices.Clone(i.parts)
		}
	}
	return nil
}

// parts gives the parts of an expression that is being declared.
func (m *Model) parts(e *tree.Expr) []Part {
	if e.Sort != tree.Operator || e.Op != "and" {
		return []Part{{m.Term(e), m.names.speaks(e), e.Sort == tree.Unchanged}}
	}
	var list []Part
	for _, p := range e.Parts {
		list = append(list, m.parts(p)...)
	}
	return list
}

// speaks gives the variables of which an expression speaks, itself or by what it names. It is asked while the expression is being declared: then a name that is bound in it stands for nothing else (K1), though a variable that is declared further on may have it.
func (n names) speaks(e *tree.Expr) few.Set {
	var all few.Set
	for p := range e.All() {
		switch p.Sort {
		case tree.Name, tree.Primed, tree.Unchanged, tree.Call:
			all |= n[p.Name].speaks
		}
	}
	return all
}
