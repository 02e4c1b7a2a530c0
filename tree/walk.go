package tree

import "iter"

// All goes through an expression and its parts, however deep: each one, then its parts from the left.
func (e *Expr) All() iter.Seq[*Expr] {
	return func(yield func(*Expr) bool) {
		e.each(yield)
	}
}

// each tells whether all were asked for.
func (e *Expr) each(yield func(*Expr) bool) bool {
	if !yield(e) {
		return false
	}
	for _, p := range e.Parts {
		if !p.each(yield) {
			return false
		}
	}
	return true
}
