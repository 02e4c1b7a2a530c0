package turn_test

import (
	"fmt"
	"math/rand"
	"regexp"
	"slices"
	"strings"
	"testing"

	"sextant/model"
	"sextant/step"
	"sextant/turn"
)

// drawn is a module at random, with its symmetric sets, in the order in which they are said to be so.
type drawn struct {
	text string
	sets [][]string
}

// atoms gives some of the letters, in any order.
func atoms(r *rand.Rand, letters string) []string {
	list := strings.Split(letters, "")
	r.Shuffle(len(list), func(i, j int) { list[i], list[j] = list[j], list[i] })
	return list[:1+r.Intn(len(list))]
}

// The variables that may be drawn, by their names.
var variables = map[string]string{
	"a": "A union {nil}", "c": "A", "s": "powerset A", "f": "A -> 0 .. 1", "q": "seqs(A, 2)", "n": "0 .. 2", "b": "B", "g": "A -> B", "d": "powerset B",
	"p": `{each u in A : ["x": u, "y": "y"]}`, "w": "{each u in A : {{u}, A minus {u}}}",
}

// What initial states have of some of them.
var begins = map[string]string{"a": "a = nil", "s": "s = {}", "f": "values(f) = {0}", "q": "len(q) = 0", "n": "n = 0", "d": "d = {}", "g": "size(values(g)) = 1"}

// What actions, inits and invariants may be made of: the variables that it speaks of, and how.
var said = [][2]string{
	{"a", "a = nil"}, {"a", "a' = nil"}, {"a", "a' in A"}, {"ac", "a' = c"}, {"ac", "a = c"}, {"as", "a in s"}, {"as", "s' = s union {a}"}, {"as", "a' in s and s' = s minus {a'}"}, {"c", "c' /= c"}, {"cs", "c' in s"},
	{"cs", "s' = A minus {c}"}, {"s", "size(s) < 2"}, {"s", "s subset s'"}, {"s", "s = {}"}, {"s", "s' = A minus s"}, {"sn", "n' = size(s)"}, {"f", "some x1 in A : f[x1] = 0 and f' = f[x1 := 1]"}, {"fc", "f[c] = 1"}, {"fc", "f' = f[c := 1 - f[c]]"},
	{"f", "values(f) = {0}"}, {"fs", "s' = {those x1 in A : f[x1] = 1}"}, {"fs", "f' = (fun x1 in A : if x1 in s then 1 else 0)"}, {"q", "len(q) = 0"}, {"q", "len(q) = 2"}, {"qc", "q' = append(q, c)"}, {"q", "q' = tail(q)"},
	{"qc", "c' = head(q)"}, {"qs", "values(q) subset s"}, {"n", "n' = n + 1"}, {"n", "n > 0"}, {"n", "n = 0"}, {"n", "n' = n - 1"}, {"b", "b' /= b"}, {"bd", "b in d"}, {"bd", "d' = d union {b}"}, {"d", "d = {}"},
	{"gbc", "g[c] = b"}, {"gbc", "g' = g[c := b]"}, {"gd", "d = values(g)"}, {"gn", "n' = size(values(g))"}, {"pc", "p.x = c"}, {"pc", "p' = p[\"x\" := c]"}, {"p", "p'.x /= p.x"}, {"wc", "{c} in w"}, {"w", "w' /= w"}, {"ws", "s' in w"},
	{"gd", "all y1 in B : y1 in d or (some x1 in A : g[x1] = y1)"},
}

// pick picks what speaks of some variables alone, of one state or of any two.
func pick(r *rand.Rand, names string, ofOne bool) string {
	var list []string
	for _, row := range said {
		if strings.Trim(row[0], names) == "" && !(ofOne && strings.Contains(row[1], "'")) {
			list = append(list, row[1])
		}
	}
	if len(list) == 0 {
		return "true"
	}
	return "(" + list[r.Intn(len(list))] + ")"
}

// action is one that speaks of some variables: most of those whose next values it does not speak of stay as they are.
func action(r *rand.Rand, names string) string {
	text := pick(r, names, false)
	for range r.Intn(3) {
		text += " and " + pick(r, names, false)
	}
	for _, name := range strings.Split(names, "") {
		if !strings.Contains(text, name+"'") && r.Intn(8) > 0 {
			text += " and unchanged " + name
		}
	}
	return text
}

func draw(r *rand.Rand) drawn {
	a, b := atoms(r, "xyz"), atoms(r, "kl")
	text := fmt.Sprintf("module Drawn\natoms A = {%s}\natoms B = {%s}\n", strings.Join(a, ", "), strings.Join(b, ", "))
	d := drawn{}
	for _, i := range r.Perm(2)[:r.Intn(3)] {
		d.sets = append(d.sets, [][]string{a, b}[i])
		text += "symmetric " + []string{"A", "B"}[i] + "\n"
	}
	names := ""
	for _, i := range r.Perm(len("acsfqnbgdpw"))[:1+r.Intn(4)] {
		name := "acsfqnbgdpw"[i : i+1]
		names += name
		text += fmt.Sprintf("variable %s in %s\n", name, variables[name])
		if begin := begins[name]; begin != "" && r.Intn(6) > 0 {
			text += "init " + begin + "\n"
		}
	}
	for range r.Intn(6) / 4 {
		text += "init " + pick(r, names, true) + "\n"
	}
	for i := range r.Intn(5) {
		text += fmt.Sprintf("action Do%d == %s\n", i, action(r, names))
	}
	for i := range 4 {
		text += fmt.Sprintf("invariant I%d == %s %s\n", i, []string{"not", ""}[r.Intn(2)], pick(r, names, true))
	}
	d.text = text
	return d
}

// ways gives all that atoms can become, by the words of Y1: of each set all orders, ascending, the first set counting most.
func (d drawn) ways() []map[string]string {
	ways := []map[string]string{{}}
	for _, set := range d.sets {
		var more []map[string]string
		for _, w := range ways {
			for _, order := range orders(len(set)) {
				longer := map[string]string{}
				for from, to := range w {
					longer[from] = to
				}
				for i, p := range order {
					longer[set[i]] = set[p]
				}
				more = append(more, longer)
			}
		}
		ways = more
	}
	return ways
}

// orders gives those lists of n numbers in which each one below n stands, ascending.
func orders(n int) [][]int {
	lists := [][]int{nil}
	for range n {
		var longer [][]int
		for _, l := range lists {
			for i := range n {
				if !slices.Contains(l, i) {
					longer = append(longer, append(slices.Clip(l), i))
				}
			}
		}
		lists = longer
	}
	return lists
}

// tokens are the texts and words of a value's text.
var tokens = regexp.MustCompile(`"[^"]*"|[a-z]+`)

// exchanged is a value's text with its atoms exchanged: no other word, and no text with its quotes, is in the way.
func exchanged(text string, way map[string]string) string {
	return tokens.ReplaceAllStringFunc(text, func(token string) string {
		if to, ok := way[token]; ok {
			return to
		}
		return token
	})
}

// byText turns a state by the text of its values.
func byText(m *model.Model, s int, way map[string]string) int {
	values := m.State(s)
	for i, v := range values {
		values[i] = exchanged(v, way)
	}
	return m.Number(values)
}

// turnedAll is a list of states, each of them turned, ascending.
func turnedAll(m *model.Model, k int, states []int) []int {
	var list []int
	for _, s := range states {
		list = append(list, turn.Turn(m, k, s))
	}
	slices.Sort(list)
	return list
}

// turnsRight looks at what Y1 and Y3 say, of all states and ways.
func turnsRight(t *testing.T, d drawn, m *model.Model) {
	t.Helper()
	ways := d.ways()
	if turn.Count(m) != len(ways) {
		t.Fatalf("%s: Count: got %d, want %d", d.text, turn.Count(m), len(ways))
	}
	for s := range m.Space() {
		var orbit []int
		for k, way := range ways {
			want := byText(m, s, way)
			if got := turn.Turn(m, k, s); got != want || got < 0 {
				t.Fatalf("%s: Turn(%d, %d): got %d, want %d", d.text, k, s, got, want)
			}
			orbit = append(orbit, want)
		}
		slices.Sort(orbit)
		orbit = slices.Compact(orbit)
		same(t, fmt.Sprintf("%s: Orbit(%d)", d.text, s), turn.Orbit(m, s), orbit...)
		same(t, fmt.Sprintf("%s: Canon(%d)", d.text, s), []int{turn.Canon(m, s)}, orbit[0])
	}
}

// keepsAll looks at what Y2 says: initial states, steps and invariants are the same of what is turned.
func keepsAll(t *testing.T, d drawn, m *model.Model) {
	t.Helper()
	for k := range turn.Count(m) {
		initial := step.Initial(m)
		same(t, d.text+": Initial", turnedAll(m, k, initial), initial...)
		for s := range m.Space() {
			other := turn.Turn(m, k, s)
			for a := range m.Actions() {
				same(t, fmt.Sprintf("%s: By(%d, %d)", d.text, a, other), step.By(m, a, other), turnedAll(m, k, step.By(m, a, s))...)
			}
			for _, name := range m.Invariants() {
				i, _ := m.Invariant(name)
				if i.So(s, s) != i.So(other, other) {
					t.Fatalf("%s: %s tells %d from %d", d.text, name, s, other)
				}
			}
		}
	}
}

func TestY1ToY4Random(t *testing.T) {
	r := rand.New(rand.NewSource(1))
	seen := map[string]int{}
	for range 1500 {
		d := draw(r)
		m, _, err := model.New(d.text)
		if err != nil {
			t.Fatalf("%s: %v", d.text, err)
		}
		if m.Space()*turn.Count(m) > 3000 {
			continue
		}
		turnsRight(t, d, m)
		if m.Space() <= 200 {
			keepsAll(t, d, m)
		}
		got := agrees(t, d.text)
		seen[fmt.Sprint("ways ", turn.Count(m))]++
		seen[fmt.Sprint("depth ", got.Depth)]++
		if got.Kept < got.Stands {
			seen[fmt.Sprint("fewer ", got.Depth)]++
		}
		for _, name := range m.Invariants() {
			a, _ := turn.Check(m, name)
			seen[fmt.Sprint("states ", len(a.Trace))]++
		}
	}
	for _, what := range []string{"ways 1", "ways 2", "ways 4", "ways 6", "ways 12", "depth -1", "depth 0", "depth 1", "depth 2", "depth 3", "fewer 0", "fewer 1", "fewer 2", "fewer 3", "states 0", "states 1", "states 2", "states 3"} {
		if seen[what] < 5 {
			t.Errorf("%s: seldom: %v", what, seen)
		}
	}
}
