package live

import (
	"math/bits"

	"sextant/model"
)

// spot is what a place of a way is taken for: its state, and what is said there of the signs of time. Where places of two ways are the same spot, each can go on as the other does.
type spot struct{ state, says int }

// actions has a bit for each action.
type actions uint16

// edge is where a way goes on from a state. (There may be millions, so it is small.)
type edge struct {
	to   int32
	rule int32
	by   actions // those that go there
}

// stride is a step of a way from one spot to another.
type stride struct {
	from spot
	edge edge
	to   spot
}

// ground is all on which ways go, with what a property is there; it grows as it is gone over.
type ground struct {
	model    *model.Model
	property model.Formula
	signs    int       // of time, in the property
	edges    [][]edge  // from each state
	enabled  []actions // in each state
	rules    []rule
	numbers  map[told]int32 // of the rules: there are few
}

func newGround(m *model.Model, property model.Formula) *ground {
	g := &ground{model: m, property: property, edges: make([][]edge, m.Space()), enabled: make([]actions, m.Space()), numbers: map[told]int32{}}
	g.signs = tells(property, func(model.Formula) bool { return false }).signs
	return g
}

// size tells how many spots there are.
func (g *ground) size() int {
	return g.model.Space() << g.signs
}

// number numbers the spots, from 0.
func (g *ground) number(at spot) int {
	return at.state<<g.signs | at.says
}

func (g *ground) spot(number int) spot {
	return spot{number >> g.signs, number & (1<<g.signs - 1)}
}

// on tells where a way goes on from a state; there is always one.
func (g *ground) on(state int) []edge {
	if len(g.edges[state]) == 0 {
		g.edges[state] = g.look(state)
	}
	return g.edges[state]
}

func (g *ground) look(state int) []edge {
	by := make([]actions, g.model.Space())
	for i, a := range g.model.EachAction() {
		for to := range a.From(state) {
			by[to] |= 1 << i
			g.enabled[state] |= 1 << i
		}
	}
	ruled := g.ruled(state)
	var list []edge
	for to, b := range by {
		if b != 0 {
			list = append(list, edge{int32(to), ruled(to), b})
		}
	}
	if len(list) == 0 {
		return []edge{{int32(state), ruled(state), 0}}
	}
	return list
}

// ruled gives the number of the rule of each step from a state; that is one, if the property does not speak of the state behind.
func (g *ground) ruled(state int) func(to int) int32 {
	hangs := false
	now := g.told(state, func(t model.Term) bool {
		so, sure := t.Now(state)
		hangs = hangs || !sure
		return so
	})
	if !hangs {
		number := g.rule(now)
		return func(int) int32 { return number }
	}
	return func(to int) int32 {
		return g.rule(g.told(state, func(t model.Term) bool { return t.So(state, to) }))
	}
}

func (g *ground) told(state int, so func(model.Term) bool) told {
	return tells(g.property, func(f model.Formula) bool {
		if f.Op == "enabled" {
			return g.enabled[state]>>f.Action&1 == 1
		}
		return so(f.Term)
	})
}

func (g *ground) rule(t told) int32 {
	number, ok := g.numbers[t]
	if !ok {
		number = int32(len(g.rules))
		g.numbers[t] = number
		g.rules = append(g.rules, newRule(t))
	}
	return number
}

// cursor goes through the strides from a spot.
type cursor struct {
	at    spot
	edges []edge // those that are left, the one that it is at first
	says  uint64 // what may be said behind that one, and was not gone through yet
}

func (g *ground) from(at spot) cursor {
	c := cursor{at: at, edges: g.on(at.state)}
	c.says = g.behind(c)
	return c
}

func (g *ground) behind(c cursor) uint64 {
	return g.rules[c.edges[0].rule].behind[c.at.says]
}

// next gives one more stride; false, if there is none.
func (g *ground) next(c *cursor) (stride, bool) {
	for c.says == 0 {
		if len(c.edges) == 1 {
			return stride{}, false
		}
		c.edges = c.edges[1:]
		c.says = g.behind(*c)
	}
	says := bits.TrailingZeros64(c.says)
	c.says &= c.says - 1
	return stride{c.at, c.edges[0], spot{int(c.edges[0].to), says}}, true
}
