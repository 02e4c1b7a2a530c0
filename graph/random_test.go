package graph_test

import (
	"fmt"
	"math/rand"
	"slices"
	"strings"
	"testing"

	"sextant/api"
	"sextant/graph"
	"sextant/model"
)

// drawing is a module over states 0 .. size - 1, with all that it says as lists.
type drawing struct {
	size    int
	initial []int
	goes    [][][]int // by action, by state
	wrong   []int     // where the invariant is not so
}

func draw(r *rand.Rand) drawing {
	d := drawing{size: 1 + r.Intn(9)}
	some := func(rare int) []int {
		var list []int
		for s := range d.size {
			if r.Intn(rare) == 0 {
				list = append(list, s)
			}
		}
		return list
	}
	d.initial = some(2 + r.Intn(6))
	rare := 2 + r.Intn(8)
	for range r.Intn(4) {
		rows := make([][]int, d.size)
		for s := range rows {
			rows[s] = some(rare)
		}
		d.goes = append(d.goes, rows)
	}
	d.wrong = some(2 + r.Intn(4))
	return d
}

func set(list []int) string {
	return "{" + strings.Trim(strings.ReplaceAll(fmt.Sprint(list), " ", ", "), "[]") + "}"
}

func (d drawing) text() string {
	text := fmt.Sprintf("module Drawing\nvariable n in 0 .. %d\ninit n in %s\n", d.size-1, set(d.initial))
	for a, rows := range d.goes {
		parts := []string{"false"}
		for s, row := range rows {
			parts = append(parts, fmt.Sprintf("n = %d and n' in %s", s, set(row)))
		}
		text += fmt.Sprintf("action A%d == %s\n", a, strings.Join(parts, " or "))
	}
	return text + fmt.Sprintf("invariant I == not (n in %s)\n", set(d.wrong))
}

func (d drawing) next(s int) []int {
	var list []int
	for t := range d.size {
		if slices.ContainsFunc(d.goes, func(rows [][]int) bool { return slices.Contains(rows[s], t) }) {
			list = append(list, t)
		}
	}
	return list
}

// ways gives all ways of so many steps that come to no state twice: shortest ones are among them. The first ones, by the first numbers that differ, come first.
func (d drawing) ways(steps int) [][]int {
	var ways [][]int
	if steps == 0 {
		for _, s := range d.initial {
			ways = append(ways, []int{s})
		}
		return ways
	}
	for _, w := range d.ways(steps - 1) {
		for _, t := range d.next(w[len(w)-1]) {
			if !slices.Contains(w, t) {
				ways = append(ways, append(slices.Clone(w), t))
			}
		}
	}
	return ways
}

// first gives the first of the shortest ways to a state that is wanted; nil, if there is none.
func (d drawing) first(wanted func(int) bool) []int {
	for steps := range d.size {
		for _, w := range d.ways(steps) {
			if wanted(w[len(w)-1]) {
				return w
			}
		}
	}
	return nil
}

func (d drawing) report(m *model.Model, bits int) api.Report {
	r := api.Report{Depth: -1, Initial: len(d.initial)}
	unlike := map[uint64]int{}
	for s := range d.size {
		way := d.first(func(t int) bool { return t == s })
		if way == nil {
			continue
		}
		r.States++
		r.Edges += len(d.next(s))
		r.Depth = max(r.Depth, len(way)-1)
		if d.next(s) == nil {
			r.Dead++
		}
		unlike[graph.Digest(m, s)%(1<<bits)]++
	}
	r.Clashes = r.States - len(unlike)
	return r
}

func TestG2ToG4Random(t *testing.T) {
	r := rand.New(rand.NewSource(1))
	told := map[string]int{}
	for range 1500 {
		d := draw(r)
		if d.size > 6 && len(d.ways(4)) > 300 {
			continue // there are too many ways to go through
		}
		m := made(t, d.text())
		bits := r.Intn(5)
		reports(t, d.text(), bits, d.report(m, bits))
		var reached []int
		for s := -1; s <= d.size; s++ {
			way := d.first(func(t int) bool { return t == s })
			same(t, fmt.Sprintf("%s: Path(%d)", d.text(), s), graph.Path(m, s), way...)
			if way != nil {
				reached = append(reached, s)
			}
			told[fmt.Sprint(len(way))]++
		}
		same(t, d.text()+": Reached", graph.Reached(m), reached...)
		wrong := d.first(func(s int) bool { return slices.Contains(d.wrong, s) })
		check, err := graph.Check(m, "I", bits)
		if err != nil {
			t.Fatal(err)
		}
		answers(t, d.text()+": Check", check, wrong)
		dead := d.first(func(s int) bool { return d.next(s) == nil })
		answers(t, d.text()+": Dead", graph.Dead(m), dead)
		told[fmt.Sprint("wrong ", len(wrong))]++
		told[fmt.Sprint("dead ", len(dead))]++
	}
	for _, what := range []string{"0", "1", "2", "3", "4", "wrong 0", "wrong 1", "wrong 2", "wrong 3", "dead 0", "dead 1", "dead 2", "dead 3"} {
		if told[what] < 5 {
			t.Errorf("%s: seldom: %v", what, told)
		}
	}
}
