package model

import "sextant/tree"

// Formula is what may be so at a place of a way without an end (T4), made ready.
type Formula struct {
	Op     string    // not, and, or, implies, iff, always, eventually or until, with Parts; enabled, with Action; or none, with Term
	Parts  []Formula // at least one of them has a sign of time, or asks what is enabled, unless Op is a sign of time
	Action int       // its number
	Term   Term      // over the state at the place, and the one behind
}

// Formula makes an expression of any level ready; with the first fault where it is.
func (m *Model) Formula(expr string) (Formula, int, error) {
	e, _, at, err := m.read(expr)
	if err != nil {
		return Formula{}, at, err
	}
	return m.formula(e), 0, nil
}

// Property is the property of a name; false, if there is none. It is made anew each time, as what comes out is the caller's.
func (m *Model) Property(name string) (Formula, bool) {
	for _, p := range m.properties {
		if p.name == name {
			return m.formula(p.expr), true
		}
	}
	return Formula{}, false
}

// formula makes an expression without a fault a formula: what two states are enough for stays whole.
func (m *Model) formula(e *tree.Expr) Formula {
	switch {
	case e.Sort == tree.Enabled:
		return Formula{Op: "enabled", Action: m.names[e.Name].place}
	case !ofTime(e):
		return Formula{Term: m.Term(e)}
	}
	parts := make([]Formula, 0, len(e.Parts))
	for _, p := range e.Parts {
		parts = append(parts, m.formula(p))
	}
	if e.Op == "leadsto" {
		return leadsTo(parts[0], parts[1])
	}
	return Formula{Op: e.Op, Parts: parts}
}

// leadsTo is always (p implies eventually q).
func leadsTo(p, q Formula) Formula {
	later := Formula{Op: "eventually", Parts: []Formula{q}}
	implied := Formula{Op: "implies", Parts: []Formula{p, later}}
	return Formula{Op: "always", Parts: []Formula{implied}}
}

// ofTime tells whether two states are not enough for an expression.
func ofTime(e *tree.Expr) bool {
	for p := range e.All() {
		if p.Sort == tree.Time || p.Sort == tree.Enabled {
			return true
		}
	}
	return false
}
