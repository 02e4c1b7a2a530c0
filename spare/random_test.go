package spare_test

import (
	"fmt"
	"math/rand"
	"slices"
	"strings"
	"testing"

	"sextant/api"
	"sextant/graph"
	"sextant/model"
	"sextant/spare"
	"sextant/step"
)

// drawn is a module at random, with what its actions read and write, and what its invariants speak of, as the letters of variables.
type drawn struct {
	text  string
	reads []string
	write []string
	speak map[string]string
}

// said is a part of an action or an invariant, with the variables that it speaks of; those whose letters have a stroke are of a step.
type said struct{ text, of string }

// What is defined of the variables, whichever there are: the names of the definitions that speak of them.
const defined = "define Low(p1) == p1 = 0\ndefine Zero == 0\n"

// about is something that is said of a variable, or of two.
func about(r *rand.Rand, v, w string) said {
	list := []said{
		{v + " = 0", v}, {v + " > 0", v}, {v + " < 2", v}, {"Low(" + v + ")", v}, {"Z" + v, v}, {"W" + v, v}, {v + " /= " + w, v + w}, {v + " + " + w + " < 3", v + w}, {"(some x1 in {" + v + ", Zero} : x1 = " + w + ")", v + w},
		{"(" + v + " = 0 or " + w + " = 0)", v + w}, {"not (Z" + v + " and Z" + w + ")", v + w}, {"true", ""}, {"Low(Zero)", ""}, {"let x1 = " + v + " : x1 < 2", v}, {"if Z" + v + " then " + w + " < 2 else true", v + w},
	}
	got := list[r.Intn(len(list))]
	got.text = "(" + got.text + ")"
	return got
}

// does is something that an action makes of a variable, as one other says.
func does(r *rand.Rand, v, w string) said {
	list := []said{
		{v + "' = " + v + " + 1", v}, {v + "' = " + v + " + 1", v}, {v + "' = " + v + " - 1", v}, {v + "' = 1 - " + v, v}, {v + "' = 0", v}, {v + "' > " + v, v}, {v + "' /= " + v, v}, {v + "' = " + w, v + w}, {v + "' in {" + w + ", 1}", v + w},
		{"Up" + v, v}, {"Same" + v, v}, {"(unchanged " + v + " or " + v + "' = 0)", v}, {"true", ""},
	}
	return list[r.Intn(len(list))]
}

// bracketed joins parts by `and`, with brackets anywhere.
func bracketed(r *rand.Rand, parts []string) string {
	if len(parts) == 1 {
		return parts[0]
	}
	at := 1 + r.Intn(len(parts)-1)
	right := bracketed(r, parts[at:])
	if r.Intn(2) == 0 {
		right = "(" + right + ")"
	}
	return bracketed(r, parts[:at]) + " and " + right
}

// ordered gives the letters that stand in a text, ascending.
func ordered(text string) string {
	list := []byte(text)
	slices.Sort(list)
	return string(slices.Compact(list))
}

// act draws an action that does something to one variable or two, and keeps most others.
func (d *drawn) act(r *rand.Rand, names string) string {
	pick := func() string { n := r.Intn(len(names)); return names[n : n+1] }
	var parts []string
	reads, kept := "", ""
	add := func(s said) {
		parts = append(parts, s.text)
		reads += s.of
	}
	changed := pick()
	if r.Intn(5) == 0 {
		changed += pick()
	}
	for _, v := range strings.Split(changed, "") {
		add(does(r, v, pick()))
	}
	for range r.Intn(3) {
		v, w := changed[:1], changed[:1]
		if r.Intn(3) == 0 {
			v = pick()
		}
		if r.Intn(4) == 0 {
			w = pick()
		}
		add(about(r, v, w))
	}
	for _, v := range strings.Split(names, "") {
		if !strings.Contains(changed, v) && r.Intn(20) > 0 || r.Intn(40) == 0 {
			parts = append(parts, []string{"unchanged " + v, "(unchanged " + v + ")"}[r.Intn(2)])
			kept += v
		}
	}
	if n := len(d.reads); n > 0 && r.Intn(30) == 0 {
		parts = append(parts, fmt.Sprint("Do", n-1))
		reads += d.speak[fmt.Sprint("Do", n-1)]
	}
	r.Shuffle(len(parts), func(i, j int) { parts[i], parts[j] = parts[j], parts[i] })
	writes := ""
	for _, v := range strings.Split(names, "") {
		if !strings.Contains(kept, v) {
			writes += v
		}
	}
	d.speak[fmt.Sprint("Do", len(d.reads))] = reads + kept
	d.reads, d.write = append(d.reads, ordered(reads)), append(d.write, writes)
	return bracketed(r, parts)
}

func draw(r *rand.Rand) drawn {
	d := drawn{speak: map[string]string{}}
	names := "abcd"[:max(1+r.Intn(4), 1+r.Intn(4))]
	text := "module Drawn\n" + defined
	for _, v := range strings.Split(names, "") {
		text += fmt.Sprintf("variable %s in 0 .. %d\n", v, 1+r.Intn(3))
		text += strings.ReplaceAll("define ZV == V = 0\ndefine WV == ZV or V = 2\ndefine UpV == V' = V + 1\ndefine SameV == unchanged V\n", "V", v)
		if r.Intn(5) > 0 {
			text += "init " + v + " = 0\n"
		}
	}
	if r.Intn(100) == 0 {
		text += "init false\n"
	}
	for i := range r.Intn(7) {
		text += fmt.Sprintf("action Do%d == %s\n", i, d.act(r, names))
	}
	for i := range 3 {
		v, w := names[r.Intn(len(names)):][:1], names[r.Intn(len(names)):][:1]
		a, b := about(r, v, v), about(r, v, w)
		name := fmt.Sprint("I", i)
		text += fmt.Sprintf("invariant %s == %s%s %s %s\n", name, []string{"", "not "}[r.Intn(2)], a.text, []string{"and", "or"}[r.Intn(2)], b.text)
		d.speak[name] = a.of + b.of
	}
	d.text = text
	return d
}

// apart is as O1 says.
func (d drawn) apart(i, j int) bool {
	return !strings.ContainsAny(d.write[i], d.reads[j]+d.write[j]) && !strings.ContainsAny(d.write[j], d.reads[i]+d.write[i])
}

// set is as O2 says: all are asked again and again, until no more come in.
func (d drawn) set(enabled []bool, action int) []int {
	in := make([]bool, len(d.reads))
	in[action] = true
	for again := true; again; {
		again = false
		for i := range in {
			for j := range in {
				comes := in[i] && enabled[i] && !d.apart(i, j) || in[i] && !enabled[i] && strings.ContainsAny(d.write[j], d.reads[i])
				if comes && !in[j] {
					in[j], again = true, true
				}
			}
		}
	}
	return standing(in)
}

// standing gives the numbers at which something is so.
func standing(is []bool) []int {
	var list []int
	for i, so := range is {
		if so {
			list = append(list, i)
		}
	}
	return list
}

// enabled tells of each action whether it is, in a state.
func (d drawn) enabled(m *model.Model, s int) []bool {
	var list []bool
	for i := range d.reads {
		list = append(list, len(step.By(m, i, s)) > 0)
	}
	return list
}

// goTo gives where some actions go, ascending.
func goTo(m *model.Model, s int, actions []int) []int {
	var list []int
	for _, a := range actions {
		list = append(list, step.By(m, a, s)...)
	}
	slices.Sort(list)
	return slices.Compact(list)
}

// next is where O3 goes from a state, and whether it is whole. In seen it counts why an action would not do.
func (d drawn) next(m *model.Model, invariant string, s int, gone map[int]int, seen map[string]int) ([]int, bool) {
	is := d.enabled(m, s)
	all := standing(is)
	for _, a := range all {
		var some []int
		for _, b := range d.set(is, a) {
			if is[b] {
				some = append(some, b)
			}
		}
		if len(some) == len(all) {
			continue
		}
		if slices.ContainsFunc(some, func(b int) bool { return strings.ContainsAny(d.write[b], d.speak[invariant]) }) {
			seen["it could be seen"]++
			continue
		}
		to := goTo(m, s, some)
		if !slices.ContainsFunc(to, func(t int) bool { return gone[t] == 0 }) {
			seen["nowhere new"]++
			continue
		}
		seen[fmt.Sprint("so many actions ", len(some))]++
		return to, false
	}
	return goTo(m, s, all), true
}

// explore is as O3 and O4 say.
func (d drawn) explore(m *model.Model, invariant string, seen map[string]int) api.Spared {
	out := api.Spared{Answer: api.Answer{Holds: true, Loop: -1}}
	row := step.Initial(m)
	from := make([]int, len(row))
	for i := range from {
		from[i] = -1
	}
	gone := map[int]int{}
	for i := 0; i < len(row); i++ {
		s := row[i]
		gone[s] = 1
		out.Kept++
		next, whole := d.next(m, invariant, s, gone, seen)
		if whole {
			out.Whole++
		}
		if len(next) == 0 {
			out.Dead = append(out.Dead, s)
		}
		if so, _, _ := m.Eval(invariant, s, s); so != "true" && out.Answer.Holds {
			out.Answer.Holds = false
			for at := i; at >= 0; at = from[at] {
				out.Answer.Trace = append([]int{row[at]}, out.Answer.Trace...)
			}
		}
		for _, t := range next {
			if !slices.Contains(row, t) {
				row, from = append(row, t), append(from, i)
			}
		}
	}
	slices.Sort(out.Dead)
	return out
}

// rounds is how many modules are drawn.
const rounds = 2500

func TestO1ToO5Random(t *testing.T) {
	r := rand.New(rand.NewSource(1))
	seen := map[string]int{}
	for range rounds {
		d := draw(r)
		m, at, err := model.New(d.text)
		if err != nil {
			t.Fatalf("%s: %v at %d", d.text, err, at)
		}
		for i := range d.reads {
			if got, want := touches(m, i), d.reads[i]+"/"+d.write[i]; got != want {
				t.Fatalf("%s: Touches(%d): got %s, want %s", d.text, i, got, want)
			}
		}
		for range 4 {
			s := r.Intn(m.Space())
			is := d.enabled(m, s)
			for a := range is {
				var want []int
				if is[a] {
					want = d.set(is, a)
				}
				if got := spare.Set(m, s, a); !slices.Equal(got, want) {
					t.Fatalf("%s: Set(%d, %d): got %v, want %v", d.text, s, a, got, want)
				}
			}
		}
		all := len(graph.Reached(m))
		for _, name := range m.Invariants() {
			got, err := spare.Explore(m, name)
			if want := d.explore(m, name, seen); err != nil || shown(got) != shown(want) {
				t.Fatalf("%s: %s: got %+v, %v, want %+v", d.text, name, got, err, want)
			}
			count(seen, got, all)
		}
		agrees(t, d.text)
	}
	for _, what := range []string{"it could be seen", "nowhere new", "so many actions 1", "so many actions 2", "so many actions 3", "fewer", "far fewer", "not all whole", "holds", "way of 1", "way of 2", "way of 3", "way of 4", "dead 0", "dead 1", "dead 2", "none"} {
		if seen[what] < 20 {
			t.Errorf("%s: seldom: %v", what, seen)
		}
	}
}

// count counts what is seen of a report, where so many states can be reached.
func count(seen map[string]int, r api.Spared, all int) {
	if r.Kept < all {
		seen["fewer"]++
	}
	if r.Kept*2 < all {
		seen["far fewer"]++
	}
	if r.Whole < r.Kept {
		seen["not all whole"]++
	}
	if r.Kept == 0 {
		seen["none"]++
	}
	if r.Answer.Holds {
		seen["holds"]++
	}
	seen[fmt.Sprint("way of ", len(r.Answer.Trace))]++
	seen[fmt.Sprint("dead ", len(r.Dead))]++
}
