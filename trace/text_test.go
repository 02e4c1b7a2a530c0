package trace_test

import (
	"fmt"
	"math"
	"math/rand"
	"slices"
	"strings"
	"testing"

	"sextant/model"
	"sextant/plain"
	"sextant/trace"
)

func shows(t *testing.T, m *model.Model, states []int, loop int, want string) {
	t.Helper()
	if got := trace.Show(m, states, loop); got != want {
		t.Errorf("Show(%v, %d): got %q, want %q", states, loop, got, want)
	}
}

// toldRead is what Read answers, in one text.
func toldRead(m *model.Model, text string) string {
	states, loop, line, err := trace.Read(m, text)
	return fmt.Sprintln(states, loop, line, plain.Told(err))
}

// readsAs looks for the states and loop of a text.
func readsAs(t *testing.T, m *model.Model, text string, loop int, states ...int) {
	t.Helper()
	if got, want := toldRead(m, text), fmt.Sprintln(states, loop, 0, "OK"); got != want {
		t.Errorf("Read(%q): got %s, want %s", text, got, want)
	}
}

// isNone looks for a fault in a line of a text.
func isNone(t *testing.T, m *model.Model, text string, line int) {
	t.Helper()
	if got, want := toldRead(m, text), fmt.Sprintln([]int{}, 0, line, "ErrSyntax"); got != want {
		t.Errorf("Read(%q): got %s, want %s", text, got, want)
	}
}

func TestT3Examples(t *testing.T) {
	m := made(t, lamp)
	const want = "0: on = false, by = nil\n1 Press: on = true, by = left\nback to 0: Go\n"
	shows(t, m, []int{0, 4}, 0, want)
	readsAs(t, m, want, 0, 0, 4)
}

func TestT3Show(t *testing.T) {
	m := made(t, ends)
	for _, row := range []struct {
		states []int
		loop   int
		want   string
	}{
		{nil, -1, ""}, {[]int{}, -1, ""}, {[]int{2}, -1, "0: n = 2\n"}, {[]int{2}, 0, "0: n = 2\nback to 0: -\n"}, {[]int{4}, 0, "0: n = 4\nback to 0: Stay\n"},
		{[]int{0, 1, 1}, -1, "0: n = 0\n1 Up: n = 1\n2 -: n = 1\n"}, {[]int{0, 3, 3}, 1, "0: n = 0\n1 Far: n = 3\n2 -: n = 3\nback to 1: -\n"},
		{[]int{4, 0, 1}, 2, "0: n = 4\n1 -: n = 0\n2 Up: n = 1\nback to 2: -\n"}, {[]int{1, 0}, 0, "0: n = 1\n1 -: n = 0\nback to 0: Up\n"},
	} {
		shows(t, m, row.states, row.loop, row.want)
		readsAs(t, m, row.want, row.loop, row.states...)
	}
}

func TestT3ShowsNothing(t *testing.T) {
	m := made(t, ends)
	for _, n := range []int{-1, 5, math.MinInt, math.MaxInt} {
		shows(t, m, []int{n}, -1, "")
		shows(t, m, []int{0, n}, 0, "")
		shows(t, m, []int{n, 0}, -1, "")
	}
	for _, loop := range []int{-2, 2, 3, math.MinInt, math.MaxInt} {
		shows(t, m, []int{0, 1}, loop, "")
	}
	shows(t, m, nil, 0, "")
	shows(t, m, nil, -2, "")
}

func TestT3NoVariables(t *testing.T) {
	m := made(t, bare)
	shows(t, m, []int{0, 0}, -1, "0:\n1 Yes:\n")
	shows(t, m, []int{0}, 0, "0:\nback to 0: Yes\n")
	shows(t, m, []int{1}, -1, "")
	readsAs(t, m, "0:\n1 Yes:\nback to 1: Yes\n", 1, 0, 0)
	for _, text := range []string{"0\n", "0: \n", "0::\n", " 0:\n", ":\n", "1:\n", "0 -:\n", "0 Yes:\n", "0:"} {
		isNone(t, m, text, 1)
	}
	for _, text := range []string{"0:\n1:\n", "0:\n1 No:\n", "0:\n1 -:\n", "0:\n1 Yes\n", "0:\nback to 0: -\n", "0:\nback to 0:Yes\n", "0:\nback to 0\n"} {
		isNone(t, m, text, 2)
	}
	shows(t, made(t, "module M"), []int{0, 0}, 0, "0:\n1 -:\nback to 0: -\n")
}

// The first of several actions is told; it has other letters, too.
func TestT3FirstAction(t *testing.T) {
	m := made(t, "module M variable v in 0 .. 1 action b_1 == v' = 1 action A == true action C == v' = 0")
	const want = "0: v = 0\n1 b_1: v = 1\n2 A: v = 0\nback to 1: b_1\n"
	shows(t, m, []int{0, 1, 0}, 1, want)
	readsAs(t, m, want, 1, 0, 1, 0)
	isNone(t, m, "0: v = 0\n1 A: v = 1\n", 2)
	isNone(t, m, "0: v = 0\n1 C: v = 0\n", 2)
	isNone(t, m, "0: v = 0\nback to 0: C\n", 2)
	isNone(t, m, "0: v = 0\nback to 0: -\n", 2)
}

func TestT3ReadsNothing(t *testing.T) {
	for _, text := range []string{lamp, ends, bare, odd, "module M init false"} {
		readsAs(t, made(t, text), "", -1)
	}
}

func TestT3Faults(t *testing.T) {
	m := made(t, ends)
	for _, row := range []struct {
		line int
		text string
	}{
		{1, "\n"}, {1, " "}, {1, "["}, {1, "0"}, {1, "0: n = 0"}, {1, "0: n = 0 "}, {1, "0: n = 0\r\n"}, {1, "0: n = 5\n"}, {1, "0: n = 00\n"}, {1, "0: n = -0\n"}, {1, "0: n =  0\n"}, {1, "0:  n = 0\n"},
		{1, "0:n = 0\n"}, {1, "0: n=0\n"}, {1, "0: m = 0\n"}, {1, "0: n = 0,\n"}, {1, "0: n = 0, n = 0\n"}, {1, "0: n = \n"}, {1, "0: n\n"}, {1, "00: n = 0\n"}, {1, "+0: n = 0\n"}, {1, "1: n = 0\n"},
		{1, "1 Up: n = 1\n"}, {1, "0 Up: n = 0\n"}, {1, "0 -: n = 0\n"}, {1, "0 : n = 0\n"}, {1, " 0: n = 0\n"}, {1, ": n = 0\n"}, {1, "n = 0\n"}, {1, "0; n = 0\n"}, {1, "0: n = nil\n"}, {1, "0: , n = 0\n"},
		{1, "back to 0: -\n"}, {1, "back to -1: -\n"}, {1, "back to : -\n"}, {1, "back to \n"}, {1, "back to"}, {1, "\n0: n = 0\n"},
		{2, "0: n = 0\n\n"}, {2, "0: n = 0\n1 Up: n = 1"}, {2, "0: n = 0\n0: n = 1\n"}, {2, "0: n = 0\n2 Up: n = 1\n"}, {2, "0: n = 0\n1: n = 1\n"}, {2, "0: n = 0\n1 -: n = 1\n"}, {2, "0: n = 0\n1 Far: n = 1\n"},
		{2, "0: n = 0\n1 Up: n = 0\n"}, {2, "0: n = 0\n1 up: n = 1\n"}, {2, "0: n = 0\n1  Up: n = 1\n"}, {2, "0: n = 0\n1 Up : n = 1\n"}, {2, "0: n = 0\n1 Up: n = 2\n"}, {2, "0: n = 0\n1Up: n = 1\n"},
		{2, "0: n = 0\nback to 0: -"}, {2, "0: n = 0\nback to 1: -\n"}, {2, "0: n = 0\nback to 1: Up\n"}, {2, "0: n = 0\nback to -1: -\n"}, {2, "0: n = 0\nback to 00: -\n"}, {2, "0: n = 0\nback to +0: -\n"},
		{2, "0: n = 0\nback to -0: -\n"}, {2, "0: n = 0\nback to 0: Up\n"}, {2, "0: n = 0\nback to 0:-\n"}, {2, "0: n = 0\nback to 0 -\n"}, {2, "0: n = 0\nback to 0: - \n"}, {2, "0: n = 0\nback to  0: -\n"},
		{2, "0: n = 0\nback to 0\n"}, {2, "0: n = 0\nback to x: -\n"}, {2, "0: n = 0\nback to 99999999999999999999: -\n"}, {2, "0: n = 0\nBack to 0: -\n"}, {2, "0: n = 4\nback to 0: -\n"}, {2, "0: n = 0\nback to 0x0: -\n"},
		{3, "0: n = 0\nback to 0: -\n\n"}, {3, "0: n = 0\nback to 0: -\n "}, {3, "0: n = 0\nback to 0: -\nback to 0: -\n"}, {3, "0: n = 0\nback to 0: -\n1 Up: n = 1\n"}, {3, "0: n = 0\nback to 0: -\n2 Up: n = 1\n"},
		{3, "0: n = 0\n1 Up: n = 1\n2 Up: n = 1\n"}, {3, "0: n = 0\n1 Up: n = 1\nback to 2: Up\n"}, {3, "0: n = 0\n1 Up: n = 1\nx\ny\n"}, {3, "0: n = 0\n1 Up: n = 1\nx"}, {2, "0: n = 0\nx\n1 Up: n = 1\ny"},
	} {
		isNone(t, m, row.text, row.line)
	}
}

// Values are read as they are written, and not otherwise.
func TestT3AsWritten(t *testing.T) {
	m := made(t, odd)
	for s := range m.Space() {
		readsAs(t, m, trace.Show(m, []int{s}, -1), -1, s)
		readsAs(t, m, trace.Show(m, []int{s, 0}, 0), 0, s, 0)
	}
	shows(t, m, []int{m.Number([]string{`"a, w = 1"`, "-1", `{"}"}`, "<<{}, {-1}>>", "back"})}, -1, `0: v = "a, w = 1", i = -1, s = {"}"}, f = <<{}, {-1}>>, w2 = back`+"\n")
	right := []string{`"a"`, "1", "{}", "<<>>", "w"}
	names := m.Variables()
	line := func(values []string) string {
		var list []string
		for i, v := range values {
			list = append(list, names[i]+" = "+v)
		}
		return "0: " + strings.Join(list, ", ") + "\n"
	}
	readsAs(t, m, line(right), -1, m.Number(right))
	for i, wrong := range [][]string{
		{` "a"`, `"a" `, `"a`, `a"`, `"A"`, "a", `"`, "", `"a""a"`, "12", "w", "{}"}, {"01", "+1", " 1", "1 ", "2", "-", "1, ", "--1", "1.", "0 - 1", "nil"}, {"{ }", "{", "}", `{"b", "a"}`, `{"a","b"}`, `{"a", "a", "b"}`, `{"a", "b"} `},
		{"<<>", "<<", ">>", "<< >>", "[1: {1}]", "[2: {}, 0: {1, 2}]", "[0: {2, 1}, 2: {}]", "[0:{1, 2}, 2: {}]", "{}", "]"}, {"W", "w ", "w,", "", "left", `"w"`, "nil", "v"},
	} {
		for _, w := range wrong {
			values := slices.Clone(right)
			values[i] = w
			isNone(t, m, line(values), 1)
		}
		isNone(t, m, line(right[:i]), 1)
		isNone(t, m, strings.Replace(line(right), " "+names[i]+" ", " x ", 1), 1)
		isNone(t, m, strings.Replace(line(right), " "+names[i]+" ", "  "+names[i]+" ", 1), 1)
		isNone(t, m, strings.Replace(line(right), " "+names[i]+" = ", " "+names[i]+" == ", 1), 1)
	}
	isNone(t, m, strings.ReplaceAll(line(right), ", ", ","), 1)
	isNone(t, m, strings.ReplaceAll(line(right), ", ", " "), 1)
	isNone(t, m, strings.TrimSuffix(line(right), "\n")+",\n", 1)
	isNone(t, m, strings.TrimSuffix(line(right), "\n")+", w2 = w\n", 1)
}

// A value that is too long, or too deep, to be read alone (V3) is read in its line.
func TestT3GreatValues(t *testing.T) {
	const levels = 20
	opened, closed := strings.Repeat("{", levels), strings.Repeat("}", levels)
	long := strings.Repeat("long, ", 200)
	m := made(t, "module M constant t = \""+long+"\" constant d = "+opened+"1"+closed+
		" variable long in {<<t, t, t, t>>, <<t, t, t, \"\">>, <<t>>} variable deep in {"+opened+"d"+closed+", {}} action A == true")
	last := m.State(m.Space() - 1)
	if m.Space() != 6 || len(last[0]) < 4001 || m.Number(last) != -1 || strings.Count(last[1], "{") != 2*levels {
		t.Fatalf("%d states, the last one %s", m.Space(), last)
	}
	for s := range m.Space() {
		readsAs(t, m, trace.Show(m, []int{0, s}, 1), 1, 0, s)
	}
	text := trace.Show(m, []int{0, m.Space() - 1}, 1)
	isNone(t, m, strings.Replace(text, "long, long", "long,  long", 1), 1)
	isNone(t, m, strings.Replace(text, "{{1}}", "{1}", 1), 2)
	isNone(t, m, strings.Replace(text, "1 A", "1 -", 1), 2)
}

// firstNone is the first line that no text of Show has behind the lines ahead of it, found by trying all that there can be; 0, if there is none.
func firstNone(m *model.Model, text string) int {
	var states []int
	ahead, back := "", false
	for i, line := range slices.Collect(strings.Lines(text)) {
		ahead += line
		found := false
		for s := 0; s < m.Space() && !found && !back; s++ {
			more := append(slices.Clone(states), s)
			if found = trace.Show(m, more, -1) == ahead; found {
				states = more
			}
		}
		for loop := 0; loop < len(states) && !found && !back; loop++ {
			found = trace.Show(m, states, loop) == ahead
			back = found
		}
		if !found {
			return i + 1
		}
	}
	return 0
}

// spoilt is a text with something of it changed.
func spoilt(r *rand.Rand, text string) string {
	at, to := r.Intn(len(text)+1), r.Intn(len(text)+1)
	at, to = min(at, to), max(at, to)
	lines := slices.Collect(strings.Lines(text))
	i, j := r.Intn(len(lines)), r.Intn(len(lines))
	signs := "0123-:,= \n\"{}[]<>nx"
	switch r.Intn(8) {
	case 0:
		return text[:at] + text[min(at+1+r.Intn(3), len(text)):]
	case 1:
		return text[:at] + signs[r.Intn(len(signs)):][:1] + text[at:]
	case 2:
		return text[:at] + signs[r.Intn(len(signs)):][:1] + text[min(at+1, len(text)):]
	case 3:
		lines[i], lines[j] = lines[j], lines[i]
	case 4:
		lines = slices.Insert(lines, i, lines[j])
	case 5:
		lines = slices.Delete(lines, i, i+1)
	case 6:
		return text[:at]
	case 7:
		return text[:at] + text[at:to] + text[at:]
	}
	return strings.Join(lines, "")
}

func TestT3Random(t *testing.T) {
	r := rand.New(rand.NewSource(3))
	wrong := 0
	for _, text := range []string{lamp, ends, bare, steps} {
		m := made(t, text)
		for range 400 {
			states := random(r, m, 1+r.Intn(5))
			loop := r.Intn(len(states)+1) - 1
			shown := trace.Show(m, states, loop)
			readsAs(t, m, shown, loop, states...)
			broken := spoilt(r, shown)
			if line := firstNone(m, broken); line > 0 {
				wrong++
				isNone(t, m, broken, line)
			} else if states, loop, line, err := trace.Read(m, broken); trace.Show(m, states, loop) != broken || line != 0 || err != nil {
				t.Errorf("Read(%q): got %v, %d, %d, %v", broken, states, loop, line, err)
			}
		}
	}
	if wrong < 500 {
		t.Errorf("only %d wrong texts", wrong)
	}
}

// Any bytes are a text.
func TestT3AnyBytes(t *testing.T) {
	r := rand.New(rand.NewSource(4))
	m := made(t, lamp)
	for range 2000 {
		text := make([]byte, r.Intn(40))
		for i := range text {
			text[i] = byte(r.Intn(256))
		}
		whole := string(text)
		if r.Intn(2) == 0 {
			whole = "0: on = false, by = nil\n" + whole
		}
		if _, _, line, err := trace.Read(m, whole); firstNone(m, whole) != line || (err == nil) != (line == 0) {
			t.Errorf("Read(%q): got %d, %v", whole, line, err)
		}
	}
}
