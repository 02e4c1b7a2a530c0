package refine

import (
	"slices"

	"sextant/api"
	"sextant/form"
	"sextant/model"
	"sextant/tree"
)

// meaning is what the states of one module stand for in another.
type meaning struct {
	other *model.Model
	parts []part // by the variables of the other
}

// part is what a variable of the other module is over a state: the place of its value in its domain; false, if it is none of its values.
type part struct {
	place func(s int) (int, bool) // nil: nothing was said of the variable
}

// read makes a text ready that says, over a state of a, what the variables of b are; with the first fault where it is.
func read(a, b *model.Model, text string) (meaning, int, error) {
	list, at, err := form.ReadGiven(text)
	if err != nil {
		return meaning{}, at, err
	}
	names := b.Variables()
	m := meaning{b, make([]part, len(names))}
	for _, given := range list {
		i := slices.Index(names, given.Ident.Name)
		if i < 0 || m.parts[i].place != nil {
			return meaning{}, given.Ident.At, api.ErrName
		}
		if at, err := m.say(i, a, given); err != nil {
			return meaning{}, at, err
		}
	}
	if slices.ContainsFunc(m.parts, func(p part) bool { return p.place == nil }) {
		return meaning{}, len(text), api.ErrName
	}
	return m, 0, nil
}

// say takes in what is said of a variable, over a state of a.
func (m *meaning) say(i int, a *model.Model, given tree.Given) (int, error) {
	told, at, err := a.Tell(given.Expr)
	if err != nil {
		return at, err
	}
	if told.Level > model.StateLevel {
		return given.Ident.At, api.ErrLevel
	}
	term, other := a.Term(given.Expr), m.other
	m.parts[i].place = func(s int) (int, bool) { return other.Place(i, term.Over(s, s)) }
	return 0, nil
}

// state is what a state stands for.
func (m meaning) state(s int) int {
	places := make([]int, len(m.parts))
	for i, p := range m.parts {
		place, ok := p.place(s)
		if !ok {
			return none
		}
		places[i] = place
	}
	return m.other.At(places)
}
