package bound

import (
	"sextant/ground"
	"sextant/many"
)

// place is what is the same at all places of a way: its names, numbered from 0: the bits, the states, then sets of states. What has a name is said to be so at a place by a variable of that place's own.
// A clause of a place has its names in the place of variables, each one more than its number.
type place struct {
	bits  int
	names int
	sets  map[many.Set]int // of sets of states their names; that of one state is the state's
	parts [][]int          // clauses: where a set has the state, one of its parts has it
	codes [][]int          // clauses: what bits a state has
	onto  []int            // by states: the name of the set of those that follow; none, if there are none
}

// none is no name.
const none = -1

// newPlace gives names to all that clauses need to speak of.
func newPlace(g *ground.Ground) *place {
	p := &place{bits: len(g.Ones), names: len(g.Ones), sets: map[many.Set]int{}}
	for s := range g.All.All() {
		p.sets[many.Of(s)] = p.name()
	}
	for s := range g.All.All() {
		p.onto = append(p.onto, p.set(g.Next(s)))
	}
	p.code(g)
	return p
}

// name is a new one.
func (p *place) name() int {
	p.names++
	return p.names - 1
}

// state is the name of a state.
func (p *place) state(s int) int {
	return p.bits + s
}

// set is the name of a set of states; none, if it is empty.
func (p *place) set(s *many.Set) int {
	if s.IsEmpty() {
		return none
	}
	if name, ok := p.sets[*s]; ok {
		return name
	}
	name := p.name()
	clause := []int{no(name)}
	for _, part := range split(s) {
		clause = append(clause, yes(p.set(&part)))
	}
	p.sets[*s] = name
	p.parts = append(p.parts, clause)
	return name
}

// split gives several parts of a set that has several states. Of their sizes, the small ones see to it that there are not too many unlike ones, the great ones that a set that is nearly another has most parts in common with it: so a place has at most some 210000 names and clauses, whatever follows what, and 65 places have no more than Solve takes (D1).
func split(s *many.Set) []many.Set {
	for _, size := range [...]int{256, 8} {
		if parts := s.Parts(size); len(parts) > 1 {
			return parts
		}
	}
	return s.Parts(1)
}

// code says what bits states have, by halves of their codes, as each half is that of many states.
func (p *place) code(g *ground.Ground) {
	half := p.bits / 2
	p.half(g, 0, half)
	p.half(g, half, p.bits)
}

// half says what bits states have from one on, up to another.
func (p *place) half(g *ground.Ground, first, end int) {
	names := map[int]int{} // by the number that these bits are
	for s := range g.All.All() {
		number := 0
		var literals []int
		for bit := first; bit < end; bit++ {
			number *= 2
			if g.Ones[bit].Has(s) {
				number++
				literals = append(literals, yes(bit))
			} else {
				literals = append(literals, no(bit))
			}
		}
		name, ok := names[number]
		if !ok {
			name = p.name()
			names[number] = name
			p.follows(name, literals...)
		}
		p.follows(p.state(s), yes(name))
	}
}

// follows adds clauses: where what has a name is so, all of these are.
func (p *place) follows(name int, literals ...int) {
	for _, l := range literals {
		p.codes = append(p.codes, []int{no(name), l})
	}
}

// yes and no are the literals of a name.
func yes(name int) int {
	return name + 1
}

func no(name int) int {
	return -yes(name)
}
