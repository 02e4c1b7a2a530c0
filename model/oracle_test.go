package model_test

import (
	"maps"
	"testing"

	"sextant/form"
	"sextant/tree"
	"sextant/value"
)

// oracle tells what an expression comes to as M3 says it, word by word: it goes through the tree anew each time, and leaves nothing out.
type oracle struct {
	declared map[string]tree.Declaration
	atoms    map[string]value.V
	now      map[string]value.V
	then     map[string]value.V
}

func newOracle(t *testing.T, module string) *oracle {
	t.Helper()
	m, at, err := form.ReadModule(module)
	if err != nil {
		t.Fatalf("%v at %d", err, at)
	}
	o := &oracle{declared: map[string]tree.Declaration{}, atoms: map[string]value.V{}}
	for _, d := range m.Declarations {
		o.declared[d.Ident.Name] = d
		if d.Word != "atoms" {
			continue
		}
		for _, n := range d.Names {
			o.atoms[n.Name] = value.Atom(n.Name)
		}
	}
	return o
}

// over sets the two states, by the values of the variables as text.
func (o *oracle) over(t *testing.T, names, now, then []string) {
	t.Helper()
	o.now, o.then = map[string]value.V{}, map[string]value.V{}
	for i, n := range names {
		o.now[n], o.then[n] = reads(t, now[i]), reads(t, then[i])
	}
}

func reads(t *testing.T, text string) value.V {
	t.Helper()
	v, at, err := value.Read(text)
	if err != nil {
		t.Fatalf("Read(%q): %v at %d", text, err, at)
	}
	return v
}

func (o *oracle) comes(e *tree.Expr, bound map[string]value.V) value.V {
	switch e.Sort {
	case tree.Number:
		return value.Int(e.Int)
	case tree.Text:
		return value.Text(e.Name)
	case tree.Fixed:
		if e.Op == "nil" {
			return value.V{}
		}
		return value.Bool(e.Op == "true")
	case tree.Name:
		return o.name(e.Name, bound)
	case tree.Primed:
		return o.then[e.Name]
	case tree.Unchanged:
		return value.Apply("=", o.now[e.Name], o.then[e.Name])
	case tree.Bind:
		return o.binds(e, bound)
	case tree.Let:
		return o.comes(e.Parts[1], with(bound, e.Name, o.comes(e.Parts[0], bound)))
	}
	var parts []value.V
	for _, p := range e.Parts {
		parts = append(parts, o.comes(p, bound))
	}
	switch {
	case e.Sort == tree.Operator:
		return value.Apply(e.Op, parts...)
	case e.Sort == tree.Call:
		given := map[string]value.V{}
		for i, n := range o.declared[e.Name].Names {
			given[n.Name] = parts[i]
		}
		return o.comes(o.declared[e.Name].Expr, given)
	case parts[0].So():
		return parts[1]
	}
	return parts[2]
}

func (o *oracle) name(name string, bound map[string]value.V) value.V {
	if v, ok := bound[name]; ok {
		return v
	}
	if v, ok := o.atoms[name]; ok {
		return v
	}
	d := o.declared[name]
	switch d.Word {
	case "variable":
		return o.now[name]
	case "atoms":
		var all []value.V
		for _, n := range d.Names {
			all = append(all, o.atoms[n.Name])
		}
		return value.Apply("set", all...)
	}
	return o.comes(d.Expr, nil)
}

func with(bound map[string]value.V, name string, v value.V) map[string]value.V {
	more := map[string]value.V{name: v}
	maps.Copy(more, bound)
	return more
}

func (o *oracle) binds(e *tree.Expr, bound map[string]value.V) value.V {
	elements, isSet := o.comes(e.Parts[0], bound).Elements()
	if !isSet {
		if e.Op == "all" || e.Op == "some" {
			return value.Bool(false)
		}
		return value.V{}
	}
	all, some := true, false
	var first value.V
	var those, each, pairs []value.V
	for v := range elements {
		said := o.comes(e.Parts[1], with(bound, e.Name, v))
		if said.So() && !some {
			first = v
		}
		if said.So() {
			those = append(those, v)
		}
		all, some = all && said.So(), some || said.So()
		each = append(each, said)
		pairs = append(pairs, v, said)
	}
	switch e.Op {
	case "all":
		return value.Bool(all)
	case "some":
		return value.Bool(some)
	case "choose":
		return first
	case "those":
		return value.Apply("set", those...)
	case "each":
		return value.Apply("set", each...)
	}
	return value.Apply("fun", pairs...)
}
