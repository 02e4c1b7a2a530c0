package image_test

import (
	"fmt"
	"math/rand"
	"slices"
	"strings"
	"testing"

	"sextant/graph"
	"sextant/image"
	"sextant/model"
	"sextant/step"
	"sextant/trace"
)

// drawing draws what is said over the variables a, b, .., which are ints.
type drawing struct {
	*rand.Rand
	names []string
}

func (d drawing) pick(list ...string) string {
	return list[d.Intn(len(list))]
}

// number is an int over a state; with steps, over a step.
func (d drawing) number(deep int, steps bool) string {
	v := d.pick(d.names...)
	if steps && d.Intn(3) == 0 {
		v += "'"
	}
	if deep == 0 || d.Intn(3) == 0 {
		return d.pick(v, v, v, fmt.Sprint(d.Intn(4)))
	}
	x, y := d.number(deep-1, steps), d.number(deep-1, steps)
	return "(" + d.pick(x+" + "+y, x+" - "+y, x+" * "+y, x+" % "+y, "if "+d.truth(deep-1, steps)+" then "+x+" else "+y, "let x"+fmt.Sprint(deep)+" = "+x+" : x"+fmt.Sprint(deep)+" + "+y, "size({"+x+", "+y+"})") + ")"
}

// truth is what may be so of a state; with steps, of a step.
func (d drawing) truth(deep int, steps bool) string {
	x, y := d.number(max(0, deep-1), steps), d.number(max(0, deep-1), steps)
	if deep == 0 || d.Intn(3) == 0 {
		return "(" + d.pick(x+" = "+y, x+" /= "+y, x+" < "+y, x+" <= "+y, x+" in {0, "+y+"}") + ")"
	}
	p, q := d.truth(deep-1, steps), d.truth(deep-1, steps)
	return "(" + d.pick(p+" and "+q, p+" or "+q, p+" implies "+q, p+" iff "+q, "not "+p, "some x"+fmt.Sprint(deep)+" in {"+x+", 1} : "+p+" or x"+fmt.Sprint(deep)+" = "+y, "if "+p+" then "+q+" else "+d.truth(0, steps), "nil") + ")"
}

// becomes is a part that tells what becomes of a variable; none: it becomes anything.
func (d drawing) becomes(v string) []string {
	switch d.Intn(10) {
	case 0:
		return nil
	case 1, 2:
		return []string{v + "' in {" + d.number(1, false) + ", " + d.number(0, false) + "}"}
	case 3:
		return []string{d.pick("("+v+"' = "+v+" + 1 or "+v+"' = 0)", v+"' > "+v, v+"' /= "+v)}
	case 4, 5, 6:
		return []string{v + "' = " + v + d.pick(" + 1", " - 1", " + 2")}
	}
	return []string{v + "' = " + d.number(1+d.Intn(2), d.Intn(8) == 0)}
}

// action keeps most variables but one; and has other parts.
func (d drawing) action() string {
	var parts []string
	moved := d.pick(d.names...)
	for _, v := range d.names {
		if v != moved && d.Intn(4) > 0 {
			parts = append(parts, "unchanged "+v)
		} else {
			parts = append(parts, d.becomes(v)...)
		}
	}
	for range max(0, d.Intn(6)-3) {
		parts = append(parts, d.truth(d.Intn(2), d.Intn(4) == 0))
	}
	d.Shuffle(len(parts), func(i, j int) { parts[i], parts[j] = parts[j], parts[i] })
	return strings.Join(append(parts, "true"), " and ")
}

// module draws a module of at most 125 states with three invariants.
func (d *drawing) module() string {
	d.names = []string{"a", "b", "c"}[:max(1+d.Intn(3), 1+d.Intn(3))]
	text := "module Drawn\n"
	for _, v := range d.names {
		text += fmt.Sprintf("variable %s in 0 .. %d\n", v, max(d.Intn(5), d.Intn(5)))
	}
	if d.Intn(8) > 0 {
		for _, v := range d.names {
			zero := "init " + v + " = 0\n"
			text += d.pick(zero, zero, zero, zero, "init "+v+" < 2\n", "")
		}
	}
	if d.Intn(8) == 0 {
		text += "init " + d.truth(1, false) + "\n"
	}
	for i := range max(d.Intn(6), d.Intn(6)) {
		text += fmt.Sprintf("action Do%d == %s\n", i, d.action())
	}
	for i := range 3 {
		at := fmt.Sprintf("(%s = %d and %s = %d)", d.pick(d.names...), d.Intn(5), d.pick(d.names...), d.Intn(5))
		text += fmt.Sprintf("invariant I%d == not %s\n", i, d.pick(at, at, at, d.truth(2, false)))
	}
	return text
}

// bitsOf is as I1 says.
func bitsOf(m *model.Model, s int) string {
	text := ""
	for i, v := range m.State(s) {
		domain := m.Domain(i)
		width := 0
		for k := len(domain) - 1; k > 0; k /= 2 {
			width++
		}
		if width > 0 {
			text += fmt.Sprintf("%0*b", width, slices.Index(domain, v))
		}
	}
	return text
}

// size counts the nodes of the diagram that is so of just some codes, as B3 says: a function is known by the codes, from a bit on, of which it is so.
func size(codes []string, bits int) int {
	nodes := map[string]int{}
	var visit func(codes []string, bits int)
	visit = func(codes []string, bits int) {
		if bits == 0 || len(codes) == 0 {
			return
		}
		var parts [2][]string
		for _, c := range codes {
			parts[c[0]-'0'] = append(parts[c[0]-'0'], c[1:])
		}
		visit(parts[0], bits-1)
		if !slices.Equal(parts[0], parts[1]) {
			visit(parts[1], bits-1)
			nodes[strings.Join(codes, " ")] = bits
		}
	}
	slices.Sort(codes)
	visit(codes, bits)
	return len(nodes)
}

// onward is, by states, where a way goes on (T1).
func onward(m *model.Model) [][]int {
	list := make([][]int, m.Space())
	for s := range list {
		list[s] = step.Next(m, s)
		if len(list[s]) == 0 {
			list[s] = []int{s}
		}
	}
	return list
}

// truths tells, by states, whether an expression is so.
func truths(t *testing.T, m *model.Model, expr string) []bool {
	t.Helper()
	p, at, err := m.Ready(expr)
	if err != nil {
		t.Fatalf("%s: %v at %d", expr, err, at)
	}
	list := make([]bool, m.Space())
	for s := range list {
		list[s] = p.So(s, s)
	}
	return list
}

// long tells, by states, whether there is a way from there of as many steps as there are states, on all places of which something is so: such a way comes to a state twice, and so there is one without an end.
func long(goes [][]int, so []bool) []bool {
	can := slices.Clone(so)
	for range goes {
		next := make([]bool, len(goes))
		for s := range goes {
			next[s] = so[s] && slices.ContainsFunc(goes[s], func(u int) bool { return can[u] })
		}
		can = next
	}
	return can
}

// comes tells, by states, whether there is a way from there to one of which q is so, with p ahead of it.
func comes(goes [][]int, p, q []bool) []bool {
	list := make([]bool, len(goes))
	for s := range goes {
		seen := make([]bool, len(goes))
		var visit func(s int) bool
		visit = func(s int) bool {
			if seen[s] {
				return false
			}
			seen[s] = true
			return q[s] || p[s] && slices.ContainsFunc(goes[s], visit)
		}
		list[s] = visit(s)
	}
	return list
}

// none is, by states, whether none of some is so.
func none(of ...[]bool) []bool {
	list := make([]bool, len(of[0]))
	for s := range list {
		list[s] = !slices.ContainsFunc(of, func(so []bool) bool { return so[s] })
	}
	return list
}

// next is, by states, whether a way goes on from there to one of which p is so.
func next(goes [][]int, p []bool) []bool {
	list := make([]bool, len(goes))
	for s := range goes {
		list[s] = slices.ContainsFunc(goes[s], func(u int) bool { return p[u] })
	}
	return list
}

// branched is as I4 says: what is asked of all ways, by those on which it is not so.
func branched(goes [][]int, op string, p, q []bool) []bool {
	all := slices.Repeat([]bool{true}, len(goes))
	switch op {
	case "EX":
		return next(goes, p)
	case "AX":
		return none(next(goes, none(p)))
	case "EF":
		return comes(goes, all, p)
	case "AF":
		return none(long(goes, none(p)))
	case "EG":
		return long(goes, p)
	case "AG":
		return none(comes(goes, all, none(p)))
	case "EU":
		return comes(goes, p, q)
	}
	return none(comes(goes, none(q), none(p, q)), long(goes, none(q)))
}

// away is, by states, how many steps the shortest way there has (G2); -1: there is none.
func away(m *model.Model, goes [][]int) []int {
	list := slices.Repeat([]int{-1}, len(goes))
	row := step.Initial(m)
	for _, s := range row {
		list[s] = 0
	}
	for ; len(row) > 0; row = row[1:] {
		for _, u := range goes[row[0]] {
			if list[u] < 0 {
				list[u] = list[row[0]] + 1
				row = append(row, u)
			}
		}
	}
	return list
}

// alike holds what Explore, Code and Check say against what is said here, and against graph.
func alike(t *testing.T, m *model.Model, goes [][]int, told map[string]int) {
	t.Helper()
	rings := make([]int, len(goes))
	var codes []string
	for s, n := range away(m, goes) {
		if n >= 0 {
			rings[n]++
			codes = append(codes, bitsOf(m, s))
		}
	}
	rings = rings[:slices.Index(append(rings, 0), 0)]
	got, err := image.Explore(m)
	nodes := size(codes, image.Bits(m))
	if err != nil || !slices.Equal(got.Rings, rings) || got.Nodes != nodes {
		t.Errorf("Explore: %+v, %v, want nodes %d, rings %v", got, err, nodes, rings)
	}
	told[fmt.Sprint(min(len(rings), 6), " rings")]++
	for s := range m.Space() {
		if code := image.Code(m, s); bits(code) != bitsOf(m, s) || len(code) != image.Bits(m) {
			t.Errorf("Code(%d): %v, want %s", s, code, bitsOf(m, s))
		}
	}
	for _, name := range m.Invariants() {
		want, _ := graph.Check(m, name, 64)
		got, err := image.Check(m, name)
		if err != nil || got.Holds != want.Holds || len(got.Trace) != len(want.Trace) || got.Loop != -1 || !got.Holds && !trace.Breaks(m, name, got) {
			t.Errorf("Check(%s): %+v, %v, want %+v", name, got, err, want)
		}
		told[fmt.Sprint("way of ", min(len(got.Trace), 5))]++
	}
}

// looks holds what Branch says against what is said here.
func (d drawing) looks(t *testing.T, m *model.Model, goes [][]int, told map[string]int) {
	t.Helper()
	for _, op := range []string{"EX", "AX", "EF", "AF", "EG", "AG", "EU", "AU"} {
		p, q := d.truth(d.Intn(3), false), d.truth(d.Intn(3), false)
		var want []int
		for s, so := range branched(goes, op, truths(t, m, p), truths(t, m, q)) {
			if so {
				want = append(want, s)
			}
		}
		got, at, err := image.Branch(m, op, p, q)
		if err != nil || at != 0 || !slices.Equal(got, want) {
			t.Errorf("%s %s %s: %v, %d, %v, want %v", op, p, q, got, at, err, want)
		}
		if len(want) > 0 && len(want) < m.Space() {
			told[op]++
		}
	}
}

func TestI1ToI4Random(t *testing.T) {
	d := &drawing{Rand: rand.New(rand.NewSource(1))}
	told := map[string]int{}
	for range 1000 {
		text := d.module()
		m := made(t, text)
		goes := onward(m)
		alike(t, m, goes, told)
		d.looks(t, m, goes, told)
		if t.Failed() {
			t.Fatal(text)
		}
	}
	for _, what := range []string{"0 rings", "1 rings", "2 rings", "3 rings", "4 rings", "5 rings", "6 rings", "way of 0", "way of 1", "way of 2", "way of 3", "way of 4", "way of 5", "EX", "AX", "EF", "AF", "EG", "AG", "EU", "AU"} {
		if told[what] < 15 {
			t.Errorf("%s: seldom: %v", what, told)
		}
	}
}

// Actions whose parts have few cases or many, and speak of all variables, or of some, or of none.
func TestI2ToI4Wide(t *testing.T) {
	text := "module Wide\n"
	for _, v := range []string{"a", "b", "c", "d", "e"} {
		text += "variable " + v + " in 0 .. 3\ninit " + v + " = 0\n"
	}
	text += `action Sum == e = 0 and a' = (a + b + c + d + 1) % 4 and b' = a and unchanged c and unchanged d and e' in {1, 3}
action Turn == (a' + b' + c' + d') % 4 = (a + b) % 4 and e' = 0 and a' = b and b' = c and c' = d and e > 0
action Any == 1 + 1 = 2 and a = 3 and e' = a and (a + b + c + d) % 3 = 0 and c' < 2 and a' = 0
action None == 1 + 1 = 3 and (a + b + c + d) % 3 = 0
invariant I == a + b + c + d + e < 11
invariant J == not (a = 3 and b = 3 and d = 2)
`
	m := made(t, text)
	d := &drawing{Rand: rand.New(rand.NewSource(2)), names: m.Variables()}
	goes, told := onward(m), map[string]int{}
	alike(t, m, goes, told)
	for range 5 {
		d.looks(t, m, goes, told)
	}
	if told["6 rings"] != 1 || told["way of 5"] != 1 || told["EX"] == 0 || told["AU"] == 0 {
		t.Errorf("too little happens: %v", told)
	}
}
