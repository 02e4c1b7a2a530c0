package value

import (
	"iter"
	"slices"
)

// Bool is a bool.
func Bool(b bool) V {
	return V{b}
}

// Int is an int.
func Int(n int64) V {
	return V{n}
}

// Text is a text, of bytes that it may have (V1).
func Text(bytes string) V {
	return V{quoted(bytes)}
}

// Atom is an atom, by its name.
func Atom(name string) V {
	return V{atom(name)}
}

// Elements goes through the elements of a set, ascending; false, if a value is none.
func (v V) Elements() (iter.Seq[V], bool) {
	s, ok := v.is.(*set)
	if !ok {
		return nil, false
	}
	return slices.Values(s.elements), true
}
