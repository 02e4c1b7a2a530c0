package run_test

import (
	"fmt"
	"math/rand"
	"regexp"
	"strconv"
	"strings"
	"testing"

	"sextant/api"
	"sextant/bound"
	"sextant/form"
	"sextant/graph"
	"sextant/image"
	"sextant/induct"
	"sextant/kinds"
	"sextant/live"
	"sextant/model"
	"sextant/plain"
	"sextant/run"
	"sextant/spare"
	"sextant/trace"
	"sextant/turn"
)

// row is one of A2's table: what such a line is like, and what it is answered, by its pieces in brackets.
type row struct {
	like *regexp.Regexp
	tell func(p []string) (string, int, error)
}

// oracle has the rows of A2's table, each told by the layer that it names.
type oracle struct {
	text string
	m    *model.Model
	rows []row
}

func newOracle(t *testing.T, text string) *oracle {
	t.Helper()
	m, at, err := model.New(text)
	if err != nil {
		t.Fatalf("New(%q): %v at %d", text, err, at)
	}
	o := &oracle{text: text, m: m}
	o.states()
	o.searches()
	o.clauses()
	return o
}

// row takes in one more. In what a line is like, N is a number, and R all of what is left.
func (o *oracle) row(like string, tell func(p []string) (string, int, error)) {
	like = strings.ReplaceAll(like, "N", `(0|[1-9][0-9]{0,8})`)
	like = strings.ReplaceAll(like, "R", `(?: (.*))?`)
	o.rows = append(o.rows, row{regexp.MustCompile(`^(?s:` + like + `)$`), tell})
}

func number(digits string) int {
	n, err := strconv.Atoi(digits)
	if err != nil {
		panic(err)
	}
	return n
}

func word(so bool, yes, no string) string {
	if so {
		return yes
	}
	return no
}

func (o *oracle) states() {
	o.row(`showR`, func(p []string) (string, int, error) {
		return form.Module(o.text)
	})
	o.row(`kindR`, func(p []string) (string, int, error) {
		kind, level, at, err := kinds.Expr(o.text, p[1])
		return fmt.Sprintf("%s %d\n", kind, level), at, err
	})
	o.row(`eval N NR`, func(p []string) (string, int, error) {
		v, at, err := o.m.Eval(p[3], number(p[1]), number(p[2]))
		return v + "\n", at, err
	})
	o.row(`walk N NR`, func(p []string) (string, int, error) {
		return trace.Show(o.m, trace.Walk(o.m, uint64(number(p[1])), number(p[2])), -1), 0, nil
	})
	o.row(`branch(?: ([^ ]*)R)?`, func(p []string) (string, int, error) {
		if p[1] == "EU" || p[1] == "AU" {
			return "", 0, api.ErrName
		}
		list, at, err := image.Branch(o.m, p[1], p[2], "")
		return fmt.Sprintf("%d of %d\n", len(list), o.m.Space()), at, err
	})
}

func (o *oracle) searches() {
	o.row(`exploreR`, func(p []string) (string, int, error) {
		r, err := graph.Explore(o.m, 0)
		return fmt.Sprintf("states %d initial %d edges %d dead %d depth %d\n", r.States, r.Initial, r.Edges, r.Dead, r.Depth), 0, err
	})
	o.row(`turnedR`, func(p []string) (string, int, error) {
		r := turn.Explore(o.m)
		return fmt.Sprintf("kept %d of %d depth %d\n", r.Kept, r.Stands, r.Depth), 0, nil
	})
	o.row(`sparedR`, func(p []string) (string, int, error) {
		r, err := spare.Explore(o.m, p[1])
		return fmt.Sprintf("kept %d whole %d dead %d %s\n", r.Kept, r.Whole, len(r.Dead), word(r.Answer.Holds, "holds", "fails")), 0, err
	})
	o.row(`ringsR`, func(p []string) (string, int, error) {
		r, err := image.Explore(o.m)
		return fmt.Sprintf("nodes %d rings%s\n", r.Nodes, strings.TrimSuffix(" "+strings.Trim(fmt.Sprint(r.Rings), "[]"), " ")), 0, err
	})
	answer := func(a api.Answer, err error) (string, int, error) {
		if a.Holds {
			return "holds\n", 0, err
		}
		return "fails\n" + trace.Show(o.m, a.Trace, -1), 0, err
	}
	o.row(`checkR`, func(p []string) (string, int, error) { return answer(graph.Check(o.m, p[1], 0)) })
	o.row(`deadR`, func(p []string) (string, int, error) { return answer(graph.Dead(o.m), nil) })
}

func (o *oracle) clauses() {
	holds := func(so bool) string { return word(so, "holds\n", "fails\n") }
	o.row(`liveR`, func(p []string) (string, int, error) {
		a, err := live.Check(o.m, p[1])
		return holds(a.Holds), 0, err
	})
	o.row(`within NR`, func(p []string) (string, int, error) {
		a, err := bound.Check(o.m, p[2], number(p[1]))
		return holds(a.Holds), 0, err
	})
	o.row(`induct NR`, func(p []string) (string, int, error) {
		base, step, err := bound.Induct(o.m, p[2], number(p[1]))
		return fmt.Sprintf("base %s step %s\n", word(base, "yes", "no"), word(step, "yes", "no")), 0, err
	})
	o.row(`sealR`, func(p []string) (string, int, error) {
		z, err := induct.Check(o.m, p[1])
		return holds(z.Answer.Holds), 0, err
	})
}

// answer is what a line is answered.
func (o *oracle) answer(line string) string {
	for _, r := range o.rows {
		p := r.like.FindStringSubmatch(line)
		if p == nil {
			continue
		}
		told, at, err := r.tell(p)
		if err != nil {
			return fmt.Sprintf("error %s at %d\n", plain.Told(err).Error(), at)
		}
		return told
	}
	return "error ErrSyntax\n"
}

// drawer draws modules and lines.
type drawer struct{ *rand.Rand }

func newDrawer(seed int64) drawer {
	return drawer{rand.New(rand.NewSource(seed))}
}

// one draws one of what a text has between bars.
func (d drawer) one(of string) string {
	list := strings.Split(of, "|")
	return list[d.Intn(len(list))]
}

const conditions = "b|not b|n = 0|n < 2|n /= 1|n % 2 = 0|a = nil|a in A|b iff n = 1|b or n > 1|some h in A : a = h|a in A implies b|true|false"

func (d drawer) module() string {
	text := fmt.Sprintf("module Drawn\natoms A = {x, y%s}\nsymmetric A\nvariable n in 0 .. %d\nvariable a in A union {nil}\nvariable b in {false, true}\n", d.one("|, z"), 1+d.Intn(3))
	for range d.Intn(4) {
		text += "init " + d.one(conditions) + "\n"
	}
	for i := range d.Intn(4) {
		text += fmt.Sprintf("action G%d == (%s) and %s and %s and %s\n", i, d.one(conditions),
			d.one("unchanged n|unchanged n|n' = n + 1|n' = 0|n' in {n - 1, n + 1}|true"), d.one("unchanged a|unchanged a|a' = nil|a' in A|a' /= a|true"), d.one("unchanged b|unchanged b|b' = (not b)|b' = (n = 0)|true"))
		text += d.one("||fair weak |fair strong ")
		if strings.HasSuffix(text, " ") {
			text += fmt.Sprintf("G%d\n", i)
		}
	}
	i := d.one(conditions)
	return text + fmt.Sprintf("invariant I == %s\ninvariant J == %s\nproperty P == always (%s)\nproperty Q == %s (%s)\n", i, d.one(conditions), i, d.one("eventually|always eventually|eventually always|not always"), d.one(conditions))
}

// expr draws an expression, at times one with a fault.
func (d drawer) expr() string {
	switch d.Intn(4) {
	case 0:
		return d.one("n|a|{b, b'}|n' + 1|G0|I|enabled G0|always b|unchanged a|<<a>>|nil|x||zz|n +|1 + b|{always b}|n' = n| b|b |b # so|99999999999999999999")
	case 1:
		return "(" + d.expr() + ") " + d.one("and|or|=|iff") + " (" + d.expr() + ")"
	}
	return d.one(conditions)
}

func (d drawer) number() string {
	if d.Intn(12) == 0 {
		return d.one("|00|01|-1|+2|x|1x|1234567890|٣|1\t")
	}
	return d.one("0|1|2|3|5|8|13|40|64|65|999999999")
}

// line draws a line that asks, at times one with a fault.
func (d drawer) line() string {
	name := d.one("I|I|J|J|P|Q|zz|| I|J ")
	line := ""
	switch word := d.one("show|kind|kind|eval|eval|walk|explore|turned|spared|rings|check|dead|live|within|induct|seal|branch|branch|bad|"); word {
	case "kind":
		line = word + " " + d.expr()
	case "eval":
		line = word + " " + d.number() + " " + d.number() + " " + d.expr()
	case "walk":
		line = word + " " + d.number() + " " + d.number()
	case "spared", "check", "seal":
		line = word + " " + name
	case "live":
		line = word + " " + d.one("P|Q|P|Q|I|zz||P ")
	case "within", "induct":
		line = word + " " + d.number() + " " + name
	case "branch":
		line = word + " " + d.one("EX|AX|EF|AF|EG|AG|EX|AX|EF|AF|EG|AG|EU|AU|XX|") + " " + d.expr()
	default:
		line = word
	}
	switch d.Intn(15) {
	case 0:
		return line + d.one(" | x|  1|x|\t|\r|\xff")
	case 1:
		return strings.Replace(line, " ", d.one("|  |\t"), 1)
	case 2:
		return line[:d.Intn(len(line)+1)]
	}
	return line
}

// Each line is answered by the layer that the table names.
func TestA2Random(t *testing.T) {
	d := newDrawer(1)
	modules := []string{lamp, wide, nowhere, "module M\n"}
	for range 60 {
		modules = append(modules, d.module())
	}
	for _, text := range modules {
		o := newOracle(t, strings.TrimSuffix(text, "\n"))
		for range 40 {
			lines, want := "", ""
			for range d.Intn(4) {
				line := d.line()
				lines += line + "\n"
				want += o.answer(line)
			}
			is(t, text+"----\n"+lines, want)
		}
	}
}

// The answers to the first lines are the beginning of the answers to all; each line is answered as if it were asked alone.
func TestA3Random(t *testing.T) {
	d := newDrawer(2)
	for range 30 {
		begin := d.module() + "----\n"
		whole := begin
		for range 12 {
			whole += d.line() + "\n"
		}
		all := run.Run(whole)
		ahead := ""
		lines := strings.SplitAfter(whole[len(begin):], "\n")
		for i, line := range lines {
			first := begin + strings.Join(lines[:i], "")
			is(t, first, ahead)
			if i > 0 && !strings.HasSuffix(first, "\n\n") { // without its newline an empty last line would be none
				is(t, strings.TrimSuffix(first, "\n"), ahead)
			}
			ahead += run.Run(begin + line)
		}
		if ahead != all {
			t.Errorf("Run(%q): got %q, want %q", whole, all, ahead)
		}
	}
}

// asked gives the answers to lines, one for each of them.
func asked(text string, lines ...string) []string {
	var list []string
	for _, line := range lines {
		list = append(list, strings.TrimSuffix(run.Run(text+"----\n"+line), "\n"))
	}
	return list
}

// All ways of looking at an invariant say the same of it: one by one, by orbits, by fewer steps, by clauses and by induction; and so does the property that it is always so.
func TestA2AllAgree(t *testing.T) {
	d := newDrawer(3)
	told := map[string]int{}
	for range 150 {
		text := d.module()
		a := asked(text, "check I", "spared I", "within 64 I", "seal I", "live P", "induct 64 I")
		holds, _, _ := strings.Cut(a[0], "\n")
		told[holds]++
		base := "base " + word(holds == "holds", "yes", "no") + " "
		if !strings.HasSuffix(a[1], " "+holds) || a[2] != holds || a[3] != holds || a[4] != holds || !strings.HasPrefix(a[5], base) {
			t.Errorf("%s: %q", text, a)
		}
		looksAlike(t, text)
	}
	if told["holds"] < 30 || told["fails"] < 30 {
		t.Errorf("%v: too few of one kind", told)
	}
}

// looksAlike holds what is told of what can be reached against each other.
func looksAlike(t *testing.T, text string) {
	t.Helper()
	a := asked(text, "explore", "turned", "rings")
	explored, turned := strings.Fields(a[0]), strings.Fields(a[1])
	states, depth := explored[1], explored[9]
	if turned[3] != states || turned[5] != depth {
		t.Errorf("%s: %q", text, a)
	}
	rings := strings.Fields(a[2])[3:]
	sum := 0
	for _, n := range rings {
		sum += number(n)
	}
	if fmt.Sprint(sum) != states || fmt.Sprint(len(rings)-1) != depth {
		t.Errorf("%s: %q", text, a)
	}
}

// No text makes it panic, and what it answers is lines.
func TestP1AnyText(t *testing.T) {
	d := newDrawer(4)
	for range 3000 {
		text := []byte(session(d.module(), d.line(), d.line(), d.line()))
		for range d.Intn(6) {
			at := d.Intn(len(text))
			switch d.Intn(4) {
			case 0:
				text[at] = byte(d.Intn(256))
			case 1:
				text = append(text[:at:at], text[at+1:]...)
			case 2:
				text = text[:at+1]
			case 3:
				text = append(text[:at:at], append([]byte("\n----\n"), text[at:]...)...)
			}
			if len(text) == 0 {
				break
			}
		}
		got := run.Run(string(text))
		if got != "" && !strings.HasSuffix(got, "\n") {
			t.Fatalf("Run(%q): %q", text, got)
		}
		if got != run.Run(string(text)) {
			t.Fatalf("Run(%q): not the same once more", text)
		}
	}
}
