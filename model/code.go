package model

import (
	"slices"

	"sextant/few"
	"sextant/tree"
	"sextant/value"
)

// maybe is a value, if it is known.
type maybe struct {
	value value.V
	known bool
}

func known(v value.V) maybe {
	return maybe{v, true}
}

// comes tells what an expression comes to. What it comes to is known, if it is the same whatever the values that are not known.
type comes func(*machine) maybe

// code is an expression made ready.
type code struct {
	comes comes
	fixed bool // it comes to the same whatever it is over
}

// machine is what an expression is over.
type machine struct {
	now, then []maybe   // the values of the variables
	bound     []maybe   // what bound names stand for, the innermost last
	taken     []value.V // what operators under way have of their parts
}

// thing is what a name of a module stands for.
type thing struct {
	code   code     // of a definition with names in brackets: with these bound
	place  int      // of a variable, an action or an invariant: how many of its sort stand ahead
	atoms  []string // of a set of atoms: as they are declared
	speaks few.Set  // of a variable: it; of a definition, an action or an invariant: the variables of which its expression speaks
}

// names tells what the names of a module stand for.
type names map[string]thing

// made makes an expression without a fault, within which some names are bound, a closure.
func (n names) made(e *tree.Expr, bound []string) code {
	switch e.Sort {
	case tree.Number:
		return fixed(value.Int(e.Int))
	case tree.Text:
		return fixed(value.Text(e.Name))
	case tree.Fixed:
		return word(e.Op)
	case tree.Name:
		return n.name(e.Name, bound)
	case tree.Primed:
		return code{comes: then(n[e.Name].place)}
	case tree.Unchanged:
		return code{comes: unchanged(n[e.Name].place)}
	case tree.Call:
		return n.call(e, bound)
	case tree.Let, tree.Bind:
		ahead, behind := n.made(e.Parts[0], bound), n.made(e.Parts[1], within(bound, e.Name))
		return code{comes: binder(e.Op, ahead.comes, behind.comes)}
	}
	return n.ofParts(e, bound)
}

func fixed(v value.V) code {
	return code{func(*machine) maybe { return known(v) }, true}
}

func word(w string) code {
	if w == "nil" {
		return fixed(value.V{})
	}
	return fixed(value.Bool(w == "true"))
}

// within is the names that are bound where one more is. It shares nothing with the list, as others may be put behind that, too.
func within(bound []string, name string) []string {
	return append(slices.Clip(bound), name)
}

// name looks for what is bound first: a name that is declared further on may be bound ahead of that.
func (n names) name(name string, bound []string) code {
	i := slices.Index(bound, name)
	if i < 0 {
		return n[name].code
	}
	back := len(bound) - i
	return code{comes: func(m *machine) maybe { return m.bound[len(m.bound)-back] }}
}

func now(place int) comes {
	return func(m *machine) maybe { return m.now[place] }
}

func then(place int) comes {
	return func(m *machine) maybe { return m.then[place] }
}

func unchanged(place int) comes {
	return func(m *machine) maybe {
		a, b := m.now[place], m.then[place]
		if !a.known || !b.known {
			return maybe{}
		}
		return is(value.Compare(a.value, b.value) == 0)
	}
}

func is(so bool) maybe {
	return known(value.Bool(so))
}

// call binds the parts, which the definition's expression knows by their places alone.
func (n names) call(e *tree.Expr, bound []string) code {
	var parts []comes
	for _, p := range e.Parts {
		parts = append(parts, n.made(p, bound).comes)
		bound = within(bound, "") // the part is on its place while the next one is looked at, and has no name there
	}
	said := n[e.Name].code.comes
	return code{comes: func(m *machine) maybe {
		size := len(m.bound)
		for _, p := range parts {
			got := p(m)
			m.bound = append(m.bound, got)
		}
		got := said(m)
		m.bound = m.bound[:size]
		return got
	}}
}

// ofParts makes what comes of parts alone. If they are all fixed, so is it, and it is worked out once: modules speak of the same sets again and again.
func (n names) ofParts(e *tree.Expr, bound []string) code {
	var parts []comes
	settled := true
	for _, p := range e.Parts {
		c := n.made(p, bound)
		parts = append(parts, c.comes)
		settled = settled && c.fixed
	}
	made := operator(e, parts)
	if settled {
		return fixed(made(&machine{}).value)
	}
	return code{comes: made}
}

func operator(e *tree.Expr, parts []comes) comes {
	if e.Sort == tree.If {
		return choice(parts[0], parts[1], parts[2])
	}
	switch e.Op {
	case "and":
		return both(parts[0], parts[1])
	case "or":
		return told(parts[0], parts[1], true, true, true)
	case "implies":
		return told(parts[0], parts[1], false, true, true)
	}
	return applied(value.Operator(e.Op, len(parts)), parts)
}

func choice(asked, so, otherwise comes) comes {
	return func(m *machine) maybe {
		got := asked(m)
		switch {
		case !got.known:
			return maybe{}
		case got.value.So():
			return so(m)
		}
		return otherwise(m)
	}
}

func both(a, b comes) comes {
	return told(a, b, false, false, false)
}

// told is what one of two parts can tell alone: the first one, if it is so or not as it would, or the second one. Where both do not, it is otherwise.
func told(first, second comes, firstWould, secondWould, tells bool) comes {
	return func(m *machine) maybe {
		a := first(m)
		if a.known && a.value.So() == firstWould {
			return is(tells)
		}
		b := second(m)
		if b.known && b.value.So() == secondWould {
			return is(tells)
		}
		if !a.known || !b.known {
			return maybe{}
		}
		return is(!tells)
	}
}

// applied is what an operator makes of its parts, all of which it needs.
func applied(makes func([]value.V) value.V, parts []comes) comes {
	return func(m *machine) maybe {
		size := len(m.taken)
		for _, p := range parts {
			got := p(m)
			if !got.known {
				m.taken = m.taken[:size]
				return maybe{}
			}
			m.taken = append(m.taken, got.value)
		}
		v := makes(m.taken[size:])
		m.taken = m.taken[:size]
		return known(v)
	}
}
