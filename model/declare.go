package model

import (
	"slices"

	"sextant/api"
	"sextant/few"
	"sextant/tree"
	"sextant/value"
)

// declare takes in a declaration, behind all that stand ahead of it; what is wrong is so of its name.
func (m *Model) declare(d tree.Declaration) api.Errno {
	switch d.Word {
	case "atoms":
		m.declareAtoms(d)
	case "symmetric":
		m.symmetric = append(m.symmetric, m.names[d.Ident.Name].atoms)
	case "variable":
		return m.declareVariable(d)
	case "constant":
		m.names[d.Ident.Name] = thing{code: fixed(m.fixed(d.Expr))}
	case "define":
		m.names[d.Ident.Name] = thing{code: m.names.made(d.Expr, listed(d.Names)), speaks: m.names.speaks(d.Expr)}
	case "init":
		m.initial.comes = both(m.initial.comes, m.names.made(d.Expr, nil).comes)
	case "action":
		m.actions = append(m.actions, m.title(d, len(m.actions)))
	case "fair":
		m.fair = append(m.fair, fairness{m.names[d.Ident.Name].place, d.How == "strong"})
	case "invariant":
		m.invariants = append(m.invariants, m.title(d, len(m.invariants)))
	case "property":
		m.properties = append(m.properties, stated{d.Ident.Name, d.Expr})
	}
	return api.OK
}

func (m *Model) declareAtoms(d tree.Declaration) {
	atoms := make([]value.V, 0, len(d.Names))
	for _, n := range d.Names {
		atom := value.Atom(n.Name)
		atoms = append(atoms, atom)
		m.names[n.Name] = thing{code: fixed(atom)}
	}
	m.names[d.Ident.Name] = thing{code: fixed(value.Apply("set", atoms...)), atoms: listed(d.Names)}
}

func (m *Model) declareVariable(d tree.Declaration) api.Errno {
	elements, isSet := m.fixed(d.Expr).Elements()
	if !isSet {
		return api.ErrRange
	}
	values := slices.Collect(elements)
	if len(values) == 0 {
		return api.ErrRange
	}
	m.space *= len(values)
	if m.space > api.MaxSpace {
		return api.ErrFull
	}
	place := len(m.variables)
	m.names[d.Ident.Name] = thing{code: code{comes: now(place)}, place: place, speaks: few.Of(place)}
	m.variables = append(m.variables, variable{d.Ident.Name, values})
	return api.OK
}

// fixed is what an expression comes to that speaks of no state.
func (m *Model) fixed(e *tree.Expr) value.V {
	return m.names.made(e, nil).comes(&machine{}).value
}

// listed gives names without their places.
func listed(idents []tree.Ident) []string {
	names := make([]string, 0, len(idents))
	for _, n := range idents {
		names = append(names, n.Name)
	}
	return names
}

// title gives a name to an expression, which from there on stands for it.
func (m *Model) title(d tree.Declaration, place int) titled {
	made, parts := m.names.made(d.Expr, nil), m.parts(d.Expr)
	m.names[d.Ident.Name] = thing{code: made, place: place, speaks: m.names.speaks(d.Expr)}
	return titled{d.Ident.Name, Term{m, made.comes}, parts}
}
