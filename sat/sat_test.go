package sat_test

import (
	"fmt"
	"math"
	"slices"
	"strconv"
	"strings"
	"testing"

	"sextant/api"
	"sextant/plain"
	"sextant/sat"
)

// ints reads numbers.
func ints(text string) []int {
	var list []int
	for _, w := range strings.Fields(text) {
		v, err := strconv.Atoi(w)
		if err != nil {
			panic(err)
		}
		list = append(list, v)
	}
	return list
}

// clauses reads clauses in brackets: [1 -2] [].
func clauses(text string) [][]int {
	var list [][]int
	for _, part := range strings.SplitAfter(text, "]") {
		if _, c, ok := strings.Cut(part, "["); ok {
			list = append(list, ints(strings.TrimSuffix(c, "]")))
		}
	}
	return list
}

// lines reads lines of a proof: those that go have an x ahead of the bracket.
func lines(text string) []api.Line {
	var list []api.Line
	for _, part := range strings.SplitAfter(text, "]") {
		if gone, c, ok := strings.Cut(part, "["); ok {
			list = append(list, api.Line{Gone: strings.Contains(gone, "x"), Clause: ints(strings.TrimSuffix(c, "]"))})
		}
	}
	return list
}

// isFollow tells a test's fault if Follow tells something else; want is "cannot be", an error's name, or literals.
func isFollow(t *testing.T, n int, c, given, want string) {
	t.Helper()
	list, ok, err := sat.Follow(n, clauses(c), ints(given))
	got := strings.Trim(fmt.Sprint(list), "[]")
	switch {
	case err != nil:
		if list != nil || ok {
			t.Errorf("Follow(%d, %s, %s): %v, %v beside an error", n, c, given, list, ok)
		}
		got = plain.Told(err).Error()
	case !ok:
		if list != nil {
			t.Errorf("Follow(%d, %s, %s): cannot be, and yet %v", n, c, given, list)
		}
		got = "cannot be"
	}
	if got != want {
		t.Errorf("Follow(%d, %s, %s): %s, want %s", n, c, given, got, want)
	}
}

// isChecked tells a test's fault if Checked tells something else.
func isChecked(t *testing.T, n int, c, proof string, want bool) {
	t.Helper()
	if got := sat.Checked(n, clauses(c), lines(proof)); got != want {
		t.Errorf("Checked(%d, %s, %s): %v", n, c, proof, got)
	}
}

// makesTrue tells whether values make clauses true.
func makesTrue(values []bool, clauses [][]int) bool {
	for _, c := range clauses {
		if !slices.ContainsFunc(c, func(v int) bool { return values[max(v, -v)-1] == (v > 0) }) {
			return false
		}
	}
	return true
}

// units gives a clause of each literal, behind others.
func units(clauses [][]int, lits []int) [][]int {
	all := slices.Clone(clauses)
	for _, v := range lits {
		all = append(all, []int{v})
	}
	return all
}

// isPart tells whether a list is some of another's numbers, in their order there, each once.
func isPart(list, of []int) bool {
	var once []int
	for _, v := range of {
		if !slices.Contains(once, v) {
			once = append(once, v)
		}
	}
	for _, v := range list {
		i := slices.Index(once, v)
		if i < 0 {
			return false
		}
		once = once[i+1:]
	}
	return true
}

// solved gives what Solve tells, and a test's fault if that is not as C3 says; whether there are values is not looked at but by what it tells.
func solved(t *testing.T, n int, c [][]int, suppose []int) api.Solved {
	t.Helper()
	r, err := sat.Solve(n, c, suppose)
	if err != nil {
		t.Fatalf("Solve(%d): %v", n, err)
	}
	if r.Sat {
		if len(r.Model) != n || len(r.Core) != 0 || len(r.Proof) != 0 {
			t.Fatalf("Solve(%d): Sat, with %d values, core %v, %d lines", n, len(r.Model), r.Core, len(r.Proof))
		}
		if !makesTrue(r.Model, units(c, suppose)) {
			t.Fatalf("Solve(%d): not all is true with its values", n)
		}
		return r
	}
	if len(r.Model) != 0 || !isPart(r.Core, suppose) {
		t.Fatalf("Solve(%d): not Sat, with %d values, core %v of %v", n, len(r.Model), r.Core, suppose)
	}
	if !sat.Checked(n, units(c, r.Core), r.Proof) {
		t.Fatalf("Solve(%d): its lines do not show it", n)
	}
	return r
}

// isSolved tells a test's fault if Solve does not find values, or finds some, or if that is not as C3 says.
func isSolved(t *testing.T, n int, c, suppose string, want bool) api.Solved {
	t.Helper()
	r := solved(t, n, clauses(c), ints(suppose))
	if r.Sat != want {
		t.Errorf("Solve(%d, %s, %s): Sat %v", n, c, suppose, r.Sat)
	}
	return r
}

func TestC1Variables(t *testing.T) {
	for _, n := range []int{math.MinInt, -1, api.MaxLits + 1, math.MaxInt} {
		isFollow(t, n, "", "", "ErrRange")
		if r, err := sat.Solve(n, nil, nil); plain.Told(err) != api.ErrRange || r.Sat || r.Model != nil || r.Core != nil || r.Proof != nil {
			t.Errorf("Solve(%d): %v, %v", n, r, err)
		}
		isChecked(t, n, "[]", "[]", false)
	}
	isFollow(t, 0, "", "", "")
	isSolved(t, 0, "", "", true)
	isChecked(t, 0, "", "", false)
	isFollow(t, 0, "[]", "", "cannot be")
	isSolved(t, 0, "[]", "", false)
	isChecked(t, 0, "[]", "[]", true)
}

func TestC1NoLiteral(t *testing.T) {
	for _, bad := range []string{"0", "3", "-3", "9223372036854775807", "-9223372036854775808", "-9223372036854775807", "4294967297"} {
		wrong := "[1] [2 " + bad + "] [-1]"
		isFollow(t, 2, wrong, "", "ErrRange")
		isFollow(t, 2, "[1] [-1] []", "1 -1 "+bad, "ErrRange")
		for _, c := range [][2]string{{wrong, "1"}, {"[]", "1 " + bad}} {
			if r, err := sat.Solve(2, clauses(c[0]), ints(c[1])); plain.Told(err) != api.ErrRange || r.Sat || r.Model != nil || r.Core != nil || r.Proof != nil {
				t.Errorf("Solve(2, %s, %s): %v, %v", c[0], c[1], r, err)
			}
		}
		isChecked(t, 2, wrong, "[]", false)
		isChecked(t, 2, "[]", "[] ["+bad+"]", false)
		isChecked(t, 2, "[]", "[] x[1 "+bad+"]", false)
		isChecked(t, 2, "[] ["+bad+"]", "x["+bad+"] []", false)
	}
	isFollow(t, 2, "[1 -2]", "2", "1 2")
}

// At most so many clauses, however long the way through them is; a fault of n is told ahead of it, one of a literal behind it.
func TestC1Clauses(t *testing.T) {
	many := make([][]int, api.MaxClauses+1)
	many[0] = []int{7}
	for n, want := range map[int]api.Errno{-1: api.ErrRange, 3: api.ErrFull} {
		if list, ok, err := sat.Follow(n, many, []int{0}); list != nil || ok || plain.Told(err) != want {
			t.Errorf("Follow(%d) of too many: %v, %v, %v", n, list, ok, err)
		}
		if r, err := sat.Solve(n, many, []int{0}); r.Sat || r.Proof != nil || plain.Told(err) != want {
			t.Errorf("Solve(%d) of too many: %v, %v", n, r, err)
		}
	}
	if sat.Checked(7, many, lines("[]")) {
		t.Error("Checked takes too many")
	}
	many = many[:api.MaxClauses]
	if list, ok, err := sat.Follow(7, many, nil); list != nil || ok || err != nil {
		t.Errorf("Follow of just so many: %v, %v, %v", list, ok, err)
	}
	if !sat.Checked(7, many, lines("[]")) {
		t.Error("Checked does not take just so many")
	}
}

func TestC2Rows(t *testing.T) {
	isFollow(t, 3, "[1 -2] [2] [-1 3]", "", "1 2 3")
	isFollow(t, 3, "[1 -2] [2] [-1 3]", "-3", "cannot be")
}

func TestC2Edges(t *testing.T) {
	for _, c := range [][4]string{
		{"2", "", "", ""},
		{"2", "", "-2 -2 1 -2", "1 -2"},
		{"2", "", "1 -1", "cannot be"},
		{"2", "[]", "", "cannot be"},
		{"2", "[1] []", "", "cannot be"},
		{"2", "[1]", "-1", "cannot be"},
		{"2", "[1] [-1]", "", "cannot be"},
		{"2", "[2 2 2]", "", "2"},
		{"2", "[1 2 1 2]", "", ""},
		{"2", "[1 2 1 2]", "-1", "-1 2"},
		{"2", "[1 2 1 2]", "-1 -2", "cannot be"},
		{"2", "[1 -1]", "", ""},
		{"2", "[1 -1 2]", "-2", "-2"},
		{"2", "[1 -1 2]", "-2 1", "1 -2"},
		{"2", "[-1 -1 1]", "1", "1"},
		{"3", "[1 2] [1 -2]", "", ""}, // 1 must be, but no clause alone says so
		{"3", "[1 2 3]", "2", "2"},
		{"3", "[1 2 3]", "-2 -1", "-1 -2 3"},
		{"3", "[1 2 3] [-3 1]", "-2 -1", "cannot be"},
		{"4", "[4] [-4 2] [-2 -3] [3 -1]", "", "-1 2 -3 4"},
		{"4", "[4] [-4 2] [-2 -3] [3 -1 -2]", "1", "cannot be"},
	} {
		n, _ := strconv.Atoi(c[0])
		isFollow(t, n, c[1], c[2], c[3])
	}
}

// The order of clauses makes no difference, however many there are: each is looked at a few times, not once for all that comes to be true.
func TestC2Long(t *testing.T) {
	n := 200000
	var up [][]int
	for v := range n - 1 {
		up = append(up, []int{-(v + 1), v + 2})
	}
	down := slices.Clone(up)
	slices.Reverse(down)
	for _, c := range [][][]int{up, down} {
		list, ok, err := sat.Follow(n, c, []int{1})
		if !ok || err != nil || len(list) != n || list[0] != 1 || list[n-1] != n {
			t.Errorf("a long way: %d, %v, %v", len(list), ok, err)
		}
		if list, ok, err := sat.Follow(n, c, []int{1, -n}); list != nil || ok || err != nil {
			t.Errorf("a long way that cannot be: %d, %v, %v", len(list), ok, err)
		}
		if list, ok, err := sat.Follow(n, c, []int{-n}); !ok || err != nil || len(list) != n || list[0] != -1 {
			t.Errorf("a long way back: %d, %v, %v", len(list), ok, err)
		}
	}
}

// Of millions of variables most may never be spoken of.
func TestC2Wide(t *testing.T) {
	n := api.MaxLits
	c := [][]int{{-n, 5}, {-5, -3, n - 1}}
	if list, ok, err := sat.Follow(n, c, []int{n, 3}); !ok || err != nil || !slices.Equal(list, []int{3, 5, n - 1, n}) {
		t.Errorf("%v, %v, %v", list, ok, err)
	}
	r := solved(t, n, c, []int{n, 3})
	if !r.Sat || !r.Model[n-2] {
		t.Error("no values, or others than must be")
	}
	r = solved(t, n, c, []int{7, 3, -(n - 1), n})
	if r.Sat || !slices.Equal(r.Core, []int{3, -(n - 1), n}) {
		t.Errorf("core %v", r.Core)
	}
}

func TestC3Row(t *testing.T) {
	r := isSolved(t, 2, "[1 2] [-1 2]", "-2", false)
	if !slices.Equal(r.Core, []int{-2}) {
		t.Errorf("core %v", r.Core)
	}
	r = isSolved(t, 2, "[1 2] [-1 2]", "", true)
	if !r.Model[1] {
		t.Errorf("values %v", r.Model)
	}
}

func TestC3Edges(t *testing.T) {
	for _, c := range [][3]string{
		{"", "", "some"},
		{"", "1 2 3 1 2 3", "some"},
		{"[1 -1] [2 -2 2]", "", "some"},
		{"[1 2 3] [-1 -2 -3]", "-1 -2", "some"},
		{"[]", "", "none"},
		{"[]", "1 2", "none"},
		{"[1] [-1]", "2 3", "none"},
		{"", "2 -1 1", "none"},
		{"", "1 1 -1 -1", "none"},
		{"[1 2] [1 -2] [-1 2] [-1 -2]", "", "none"},
		{"[1 2] [1 -2] [-1 2] [-1 -2]", "3", "none"},
		{"[-1 -2]", "3 1 2", "none"},
		{"[-1 -2 -3]", "3 1 3 2 1", "none"},
		{"[-1 2] [-2 3]", "-3 1 2", "none"},
		{"[1 2] [1 -2]", "3 -1", "none"}, // -1 cannot be, but that does not follow clause by clause
		{"[1 2] [1 -2]", "3", "some"},
		{"[1 1 1] [-2 -2]", "", "some"},
		{"[-1]", "1", "none"},
	} {
		isSolved(t, 3, c[0], c[1], c[2] == "some")
	}
}

func TestC3CoreIsEmpty(t *testing.T) {
	for _, c := range []string{"[]", "[1] [-1]", "[1 2] [1 -2] [-1 2] [-1 -2]"} {
		if r := isSolved(t, 3, c, "", false); len(r.Core) != 0 {
			t.Errorf("%s: core %v", c, r.Core)
		}
	}
}

// holes says that each of one pigeon more than there are holes sits in one, and no two in the same; a literal of what sits ahead of each clause.
func holes(n int, ahead ...int) (int, [][]int) {
	var c [][]int
	at := func(pigeon, hole int) int { return pigeon*n + hole + 1 + len(ahead) }
	for p := range n + 1 {
		some := slices.Clone(ahead)
		for h := range n {
			some = append(some, at(p, h))
		}
		c = append(c, some)
	}
	for h := range n {
		for p := range n + 1 {
			for q := range p {
				c = append(c, []int{-at(p, h), -at(q, h)})
			}
		}
	}
	return len(ahead) + n*(n+1), c
}

// What needs thousands of faults is still shown, though not all that is learnt is kept.
func TestC3Many(t *testing.T) {
	n, c := holes(7)
	r := solved(t, n, c, nil)
	if r.Sat || len(r.Core) != 0 {
		t.Fatalf("8 pigeons sit in 7 holes: Sat %v, core %v", r.Sat, r.Core)
	}
	gone := 0
	for _, line := range r.Proof {
		if line.Gone {
			gone++
		}
	}
	if len(r.Proof) < 1000 || gone < 100 {
		t.Errorf("%d lines, %d gone: this test looks at nothing", len(r.Proof), gone)
	}
	for v := range 7 { // without its clause the first pigeon need not sit; where it does, the others have a hole less
		if r := solved(t, n, c[1:], []int{-(v + 1)}); !r.Sat {
			t.Errorf("7 pigeons do not sit in 7 holes, one free of the first: core %v", r.Core)
		}
		if r := solved(t, n, c[1:], []int{v + 1}); r.Sat || !slices.Equal(r.Core, []int{v + 1}) {
			t.Errorf("8 pigeons sit in 7 holes: Sat %v, core %v", r.Sat, r.Core)
		}
	}
}

// What is supposed and has nothing to do with it is not in the core, where it need not be; and the clauses can be without the rest.
func TestC3Core(t *testing.T) {
	n, c := holes(5, 1, 2)
	r := solved(t, n+3, c, []int{n + 1, -2, n + 2, -1, -2, n + 3})
	if r.Sat || !slices.Equal(r.Core, []int{-2, -1}) {
		t.Errorf("Sat %v, core %v", r.Sat, r.Core)
	}
	for _, v := range []int{-1, -2} {
		if r := solved(t, n, c, []int{v}); !r.Sat {
			t.Errorf("core %v, supposing %d alone", r.Core, v)
		}
	}
}

func TestC3Same(t *testing.T) {
	n, c := holes(5, 1, 2)
	a, b := solved(t, n, c, []int{-1, -2}), solved(t, n, c, []int{-1, -2})
	if fmt.Sprint(a) != fmt.Sprint(b) {
		t.Error("P2: the same call answers something else")
	}
	if a, b := solved(t, n, c, nil), solved(t, n, c, nil); fmt.Sprint(a) != fmt.Sprint(b) {
		t.Error("P2: the same call has other values")
	}
}

func TestC4Rows(t *testing.T) {
	isChecked(t, 2, "[1 2] [1 -2] [-1 2] [-1 -2]", "[1] []", true)
	isChecked(t, 2, "[1 2] [1 -2] [-1 2] [-1 -2]", "[]", false)
}

func TestC4Lines(t *testing.T) {
	const square = "[1 2] [1 -2] [-1 2] [-1 -2]"
	for _, c := range []struct {
		clauses, proof string
		want           bool
	}{
		{"[]", "", false}, // none that comes in is empty
		{"[]", "[]", true},
		{"[]", "x[]", false},
		{"[]", "x[] []", false},
		{"[] []", "x[] []", true},
		{"[]", "[] x[] x[] [1]", false},
		{"[]", "[] x[] [1]", true},
		{"[]", "[1] [2] [-1 -2] [3]", false},
		{"[]", "[1] [-1] x[] []", true},
		{"[1] [-1]", "[]", true},
		{"[1] [-1]", "[2] [3 -2] []", true},
		{"[1] [-1]", "[] [2]", true},
		{"[1] [-1]", "[] x[] x[1] [2]", false}, // a line that is refused behind the empty one
		{"[1] [-1]", "x[-1 -1] []", false},
		{"[1] [-1]", "x[-1] [1] []", false},
		{"[1] [-1] [-1]", "x[-1] []", true},
		{"[1] [-1] [-1 -1]", "x[-1] x[-1 -1 -1] []", false},
		{"[1]", "[-1]", false},
		{"[1]", "[1] [1 2] [2 1 -3]", false},
		{square, "[1 1 1] []", true},
		{square, "[1] x[1 2] []", true},
		{square, "[1] x[2 -1] []", false},
		{square, "[1] x[2 -1 2 -1] []", false},
		{square, "[1] x[1] []", false},
		{square, "[1] [1] x[1] []", true},
		{square, "[1] x[2] x[1 2 3] x[-1] x[] []", true}, // nothing goes
		{square, "[1 -1] [2 -2] []", false},
		{square, "[1 -1] x[1 -1] [1] []", true},
		{square, "[3 -3 3] [-1 2 -2] [1] []", true},
		{square, "x[1 -1] [1] []", true},
		{square, "[3 1] [1] []", true},
		{square, "[3]", false},
		{square, "[1] [3] []", true},
		{square, "[3] [1] []", false},
		{square, "x[-1 -2] [1] [2] []", false},
		{square, "x[-1 -2] [1] [2]", false},
		{"[1] [-1 2] [-2 3] [-3]", "x[-1 2] []", false},
		{"[1] [-1 2] [-2 3] [-3]", "x[1 2] []", true},
		{"[1] [-1 2] [-2 3] [2] [-3]", "x[-1 2] []", true},
		{"[1] [-1 2] [-2 3] [2] [-3]", "x[-1 2] x[2] []", false},
		{"[1] [-1 2] [-2 3] [2] [-3]", "x[2] x[1] []", false},
		{"[1] [-1 2] [-2 3] [2] [-3]", "x[2] x[1] x[-3] [-2 3] []", false},
		{"[3] [-3] [1] [-1 2]", "[] x[] x[3] [2] [1] [2 -1]", true}, // the empty one has come in: what stands behind it must be as well
		{"[3] [-3] [1] [-1 2]", "[] x[] x[3] x[1] [2]", false},
		{"[3] [-3] [1] [-1 2]", "[] x[] x[3] x[-1 2] [2]", false},
		{"[3] [-3] [1] [-1 2]", "[] x[] x[3] x[1] [-1 2] [-3 2]", true},
		{"[3] [-3] [1] [-1 2] [2]", "[] x[] x[3] x[1] [2]", true},
		{"[3] [-3] [1] [-1 2] [2]", "[] x[] x[3] x[2] [2]", true},
		{"[3] [-3] [1] [-1 2] [2]", "[] x[] x[3] x[2] x[1] [2]", false},
		{"[3] [-3] [1] [-1 2] [2]", "[] x[] x[3] x[2] [2] x[1] [2]", true}, // what followed comes in, and stays
		{"[3] [-3] [1] [-1 2] [2]", "[] x[] x[3] x[2] [2] x[1] x[2] [2]", false},
		{"[3] [-3] [1 2] [1]", "[] x[] x[3] x[1] [1]", false},
		{"[3] [-3] [1 2] [1] [-1]", "[] x[] x[3] x[1] [2]", true},
		{"[3] [-3] [1 2] [1] [-1]", "[] x[] x[3] x[-1] x[1 2] [1 -2] [2]", false},
		{"[1] [-1 2] [-2 3] [-3 -1]", "[3] x[-2 3] []", true}, // what followed of a clause that goes follows of the one that came in
		{"[1] [-1 2] [-2 3] [-3 -1]", "[3] x[-2 3] x[3] []", false},
	} {
		isChecked(t, 3, c.clauses, c.proof, c.want)
	}
}

// What is not there to show that clauses cannot be is not taken for it.
func TestC4Refused(t *testing.T) {
	for _, c := range []string{"", "[1 2]", "[1 -1]", "[1 2] [1 -2] [-1 2]", "[1] [2] [3]"} {
		for _, proof := range []string{"", "[]", "[1] []", "[-1] []", "[1] [-1] []", "x[1 2] []", "[1 -1] []", "[1 2] [1] [2] []", "[1 2] [2] [1] [-1 -2] []"} {
			isChecked(t, 3, c, proof, false)
		}
	}
}

// What goes may have been that of which all else followed, at each of many lines.
func TestC4Long(t *testing.T) {
	n := 3000
	var c [][]int
	var proof []api.Line
	for v := range n - 1 {
		c = append(c, []int{-(v + 1), v + 2})
		proof = append(proof, api.Line{Clause: []int{-1, v + 2}})
		if v > 0 {
			proof = append(proof, api.Line{Gone: true, Clause: []int{v + 1, -1}}, api.Line{Gone: true, Clause: c[v]})
		}
	}
	c = append(c, []int{-1, -n}, []int{1, n}, []int{1, -n})
	for _, behind := range []struct {
		proof string
		want  bool
	}{{"[-1] [] ", true}, {"[]", false}, {"[1] [-1] []", true}, {"[1] x[-1 -3000] x[-3000 -1] []", false}} {
		all := append(slices.Clone(proof), lines(behind.proof)...)
		if got := sat.Checked(n, c, all); got != behind.want {
			t.Errorf("%s: %v", behind.proof, got)
		}
	}
}

// A fault of the clauses, or of lines that nothing hangs on any more, is one.
func TestC4Faults(t *testing.T) {
	isChecked(t, 1, "[]", "[] [2]", false)
	isChecked(t, 1, "[]", "[] x[-2]", false)
	isChecked(t, 1, "[]", "[] x[0]", false)
	isChecked(t, 2, "[]", "[] [2]", true)
	isChecked(t, 1, "[] [2]", "[]", false)
	isChecked(t, -1, "[]", "[]", false)
}

// No proof of another formula is taken for one of this; but one for clauses that say less is.
func TestC5Others(t *testing.T) {
	n, c := holes(4)
	r := solved(t, n, c, nil)
	for i := range c {
		less := slices.Delete(slices.Clone(c), i, i+1)
		if sat.Checked(n, less, r.Proof) {
			t.Errorf("without clause %d, which is needed, it is shown still", i)
		}
	}
	if more := units(c, []int{1, 3}); !sat.Checked(n, more, r.Proof) {
		t.Error("with more clauses it is shown no more")
	}
}

// P2: nothing that is handed in is written into, or shared by what comes out; nor do any two lists that come out share memory.
func TestC3Apart(t *testing.T) {
	n, c := holes(4, 1, 2)
	suppose := []int{-1, -2, -1}
	before := fmt.Sprint(c, suppose)
	r := solved(t, n, c, suppose)
	told := fmt.Sprint(r)
	for i := range r.Proof {
		line := &r.Proof[i]
		_ = append(line.Clause, 99)
	}
	if fmt.Sprint(r) != told {
		t.Error("two lists share memory")
	}
	for _, line := range r.Proof {
		clear(line.Clause)
	}
	clear(r.Core)
	if fmt.Sprint(c, suppose) != before {
		t.Error("what was handed in is written into")
	}
	if r := solved(t, n, c, suppose); fmt.Sprint(r) != told {
		t.Error("what was told is kept")
	}
	given := []int{2, 2, 1, 1}
	list, ok, err := sat.Follow(n, c, given)
	clear(list)
	if !ok || err != nil || fmt.Sprint(c, given) != fmt.Sprint(c, []int{2, 2, 1, 1}) || fmt.Sprint(c, suppose) != before {
		t.Error("what was handed in to Follow is written into")
	}
	proof := lines("[3 1 2 3 1] x[1 2 1] [2 -2] x[2 2]")
	told = fmt.Sprint(proof)
	sat.Checked(n, c, proof)
	if fmt.Sprint(proof) != told || fmt.Sprint(c, suppose) != before {
		t.Error("what was handed in to Checked is written into")
	}
}
