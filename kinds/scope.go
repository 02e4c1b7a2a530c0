package kinds

import (
	"math"

	"sextant/tree"
)

// role is what a name stands for.
type role int

const (
	bound role = iota // by let, all and their like; or a definition's name in brackets
	constant
	atoms
	oneAtom
	variable
	definition
	action
	invariant
	property
)

// thing is what a name stands for.
type thing struct {
	role   role
	fact   fact // of the name, as an expression
	family *family
	define *define // of a definition with names in brackets
}

// family is a set of atoms.
type family struct {
	number    int
	size      int
	symmetric bool
}

// nowhere is a place behind all others.
const nowhere = math.MaxInt

// define is a definition with names in brackets.
type define struct {
	names []tree.Ident
	expr  *tree.Expr
	ahead names // what was declared ahead of it
}

// names tells what each of them stands for.
type names map[string]*thing

// scope is what names stand for at a place: its own, and those of the scope that it stands in.
type scope struct {
	*scope
	own names
}

// find tells what a name stands for; nil, if for nothing.
func (s *scope) find(name string) *thing {
	for ; s != nil; s = s.scope {
		if t := s.own[name]; t != nil {
			return t
		}
	}
	return nil
}

// with is a scope within this one, in which a name is bound.
func (s *scope) with(name string, k kind) *scope {
	return &scope{s, names{name: boundTo(k)}}
}

func boundTo(k kind) *thing {
	return &thing{role: bound, fact: fact{kind: k, cost: 1}}
}
