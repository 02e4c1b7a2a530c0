package trace

import (
	"strconv"
	"strings"

	"sextant/api"
	"sextant/model"
)

// What stands in the lines of a way, whatever the module is.
const (
	backTo   = "back to "
	noAction = "-"
	headEnd  = ":"
	another  = ","
	gives    = " = "
)

// Show writes a way, a state a line.
func Show(m *model.Model, states []int, loop int) string {
	if !areStates(m, states) || loop < -1 || loop >= len(states) {
		return ""
	}
	t := newTeller(m)
	var w strings.Builder
	for i, s := range states {
		w.WriteString(t.head(states, i))
		w.WriteString(headEnd)
		t.write(&w, s)
		w.WriteString("\n")
	}
	if loop >= 0 {
		w.WriteString(t.back(states, loop))
		w.WriteString("\n")
	}
	return w.String()
}

// teller has what the lines of ways are made of.
type teller struct {
	model   *model.Model
	signs   []string   // what stands ahead of the value of each variable
	domains [][]string // the values of each variable
	actions []string
	first   func(pair) int // the first action that goes there
}

func newTeller(m *model.Model) *teller {
	t := &teller{model: m, actions: m.Actions()}
	t.first = once(func(p pair) int { return first(m, p) })
	for i, name := range m.Variables() {
		sign := " " + name + gives
		if i > 0 {
			sign = another + sign
		}
		t.signs = append(t.signs, sign)
		t.domains = append(t.domains, m.Domain(i))
	}
	return t
}

// action is the name of the first action that goes from one state to another.
func (t *teller) action(p pair) string {
	if i := t.first(p); i >= 0 {
		return t.actions[i]
	}
	return noAction
}

// head is what stands ahead of the values of one of some states.
func (t *teller) head(states []int, i int) string {
	number := strconv.Itoa(i)
	if i == 0 {
		return number
	}
	return number + " " + t.action(pair{states[i-1], states[i]})
}

func (t *teller) write(w *strings.Builder, s int) {
	for i, place := range t.model.Places(s) {
		w.WriteString(t.signs[i])
		w.WriteString(t.domains[i][place])
	}
}

// back is the line of where a way goes on behind its last state.
func (t *teller) back(states []int, loop int) string {
	step := pair{states[len(states)-1], states[loop]}
	return backTo + strconv.Itoa(loop) + headEnd + " " + t.action(step)
}

// Read gives the way that a text shows; else the first line that is wrong.
func Read(m *model.Model, text string) ([]int, int, int, error) {
	r := newReader(m)
	number := 0
	for whole := range strings.Lines(text) {
		number++
		line, ended := strings.CutSuffix(whole, "\n")
		if !ended || !r.line(line) {
			return nil, 0, number, api.ErrSyntax
		}
	}
	return r.states, r.loop, 0, nil
}

// reader has what the lines so far show.
type reader struct {
	*teller
	places []map[string]int // of each variable: where its values, as text, stand in its domain
	states []int
	loop   int
}

// newReader looks values up as they are written, as there are values that are too long, or too deep, to be read alone (V3).
func newReader(m *model.Model) *reader {
	r := &reader{teller: newTeller(m), loop: -1}
	for _, domain := range r.domains {
		places := map[string]int{}
		for place, shown := range domain {
			places[shown] = place
		}
		r.places = append(r.places, places)
	}
	return r
}

// line takes in one more line; false, if there can be none such.
func (r *reader) line(line string) bool {
	switch {
	case r.loop >= 0:
		return false
	case strings.HasPrefix(line, backTo):
		return r.backLine(line)
	}
	head, values, found := strings.Cut(line, headEnd)
	s, ok := r.state(values)
	if !found || !ok {
		return false
	}
	r.states = append(r.states, s)
	return head == r.head(r.states, len(r.states)-1)
}

// backLine takes in the line of where the way goes on.
func (r *reader) backLine(line string) bool {
	number, _, _ := strings.Cut(line[len(backTo):], headEnd)
	loop, err := strconv.Atoi(number)
	if err != nil || loop < 0 || loop >= len(r.states) {
		return false
	}
	r.loop = loop
	return line == r.back(r.states, loop)
}

// state is the state of which a text has the values, as write writes them.
func (r *reader) state(text string) (int, bool) {
	places := make([]int, 0, len(r.signs))
	for i, sign := range r.signs {
		rest, ok := strings.CutPrefix(text, sign)
		if !ok {
			return 0, false
		}
		size := extent(rest)
		place, ok := r.places[i][rest[:size]]
		if !ok {
			return 0, false
		}
		places = append(places, place)
		text = rest[size:]
	}
	if text != "" {
		return 0, false
	}
	return r.model.At(places), true
}

// extent is how many bytes of a text stand ahead of the first comma that is within no brackets and no quotes: no value is shown with such a one.
func extent(text string) int {
	open, quoted := 0, false
	for i := range len(text) {
		switch c := text[i]; {
		case c == '"':
			quoted = !quoted
		case quoted:
		case c == '{' || c == '[' || c == '<':
			open++
		case c == '}' || c == ']' || c == '>':
			open--
		case c == ',' && open == 0:
			return i
		}
	}
	return len(text)
}
