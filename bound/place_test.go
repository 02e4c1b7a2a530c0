package bound

import (
	"math/rand"
	"slices"
	"testing"

	"sextant/api"
	"sextant/ground"
	"sextant/image"
	"sextant/many"
)

// crowded has as many states and bits as there may be, and each is followed by those for which it is told.
func crowded(follows func(s, t int) bool) *ground.Ground {
	g := &ground.Ground{Ones: make([]many.Set, image.MaxBits)}
	for s := range api.MaxSpace {
		g.All.Put(s)
		for bit := range g.Ones {
			if s>>bit&1 == 1 {
				g.Ones[bit].Put(s)
			}
		}
	}
	g.Initial, g.Good = g.All, g.All
	g.Next = func(s int) *many.Set {
		var set many.Set
		for t := range api.MaxSpace {
			if follows(s, t) {
				set.Put(t)
			}
		}
		return &set
	}
	return g
}

// TestD1NoMoreThanSolveTakes: whatever follows what, as many places as there may be have no more variables and clauses than Solve takes, and no more bytes than an answer may have (P6).
func TestD1NoMoreThanSolveTakes(t *testing.T) {
	r := rand.New(rand.NewSource(1))
	rows := []func(s, t int) bool{
		func(_, _ int) bool { return r.Intn(2) == 0 },
		func(_, _ int) bool { return r.Intn(100) == 0 },
		func(s, t int) bool { return s != t },
		func(s, t int) bool { return (s*t/8+s/8*(t/8)*31)>>(t%8)&1 == 1 },
	}
	for i, follows := range rows {
		p := newPlace(crowded(follows))
		places := api.MaxDeep + 1
		variables := places * p.names
		clauses := places*(len(p.parts)+len(p.codes)+api.MaxSpace) + 1
		literals := places * 2 * api.MaxSpace
		for _, c := range slices.Concat(p.parts, p.codes) {
			literals += places * len(c)
		}
		if variables > api.MaxLits || clauses > api.MaxClauses || 24*clauses+8*literals >= 1<<31 {
			t.Errorf("row %d: %d variables, %d clauses, %d literals", i, variables, clauses, literals)
		}
	}
}

// TestD1Sets: a set has a state just where, part by part, something leads to it.
func TestD1Sets(t *testing.T) {
	r := rand.New(rand.NewSource(2))
	p := newPlace(crowded(func(s, t int) bool { return s == t }))
	sets := []many.Set{many.Of(0), many.Of(0, 1), many.Of(0, 4095), many.Of(7, 8), many.Of(255, 256, 257, 300)}
	for _, chances := range []int{2, 10, 1000} {
		var set many.Set
		for s := range api.MaxSpace {
			if r.Intn(chances) == 0 {
				set.Put(s)
			}
		}
		sets = append(sets, set)
	}
	for _, set := range sets {
		name := p.set(&set)
		onto := map[int][]int{}
		for _, c := range p.parts {
			onto[-c[0]-1] = c[1:]
		}
		var leads many.Set
		var follow func(name int)
		follow = func(name int) {
			if s := name - p.bits; s < api.MaxSpace {
				leads.Put(s)
				return
			}
			if len(onto[name]) < 2 {
				t.Errorf("the name %d has %d parts", name, len(onto[name]))
			}
			for _, l := range onto[name] {
				follow(l - 1)
			}
		}
		follow(name)
		if leads != set {
			t.Errorf("a set of %d states leads to others, %d of them", len(set.Parts(1)), len(leads.Parts(1)))
		}
	}
	if p.set(&many.Set{}) != none {
		t.Error("the empty set has a name")
	}
}
