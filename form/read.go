package form

import (
	"strconv"

	"sextant/api"
	"sextant/tree"
	"sextant/word"
)

// reader stands at a token. What is wrong is so at the token where it stands.
type reader struct {
	text  string
	at    int    // where the token begins
	piece string // its bytes
	class class
	depth int // how many levels are begun
}

// fail ends the reading.
func (r *reader) fail(err api.Errno) {
	panic(fault{r.at, err})
}

// skip goes on behind a word or a sign, if it is the one that stands here.
func (r *reader) skip(mark string) bool {
	if r.piece != mark {
		return false
	}
	r.advance()
	return true
}

// need goes on behind a word or a sign that must stand here.
func (r *reader) need(mark string) {
	if !r.skip(mark) {
		r.fail(api.ErrSyntax)
	}
}

// take goes on behind the token, and gives it.
func (r *reader) take() string {
	piece := r.piece
	r.advance()
	return piece
}

// enter goes on behind the token, which begins a level.
func (r *reader) enter() {
	if r.depth == api.MaxNest {
		r.fail(api.ErrFull)
	}
	r.depth++
	r.advance()
}

// leave ends the level.
func (r *reader) leave() {
	r.depth--
}

// several reads one thing or more, with commas between them.
func several[T any](r *reader, item func() T) []T {
	items := []T{item()}
	for r.skip(",") {
		items = append(items, item())
	}
	return items
}

// list reads one thing or more, with commas between them, and the bracket behind them.
func list[T any](r *reader, item func() T, closing string) []T {
	items := several(r, item)
	r.need(closing)
	return items
}

// within reads, on a level of its own, a list in brackets; the reader stands at the first of them.
func within[T any](r *reader, item func() T, closing string) []T {
	r.enter()
	items := list(r, item, closing)
	r.leave()
	return items
}

// name reads a name.
func (r *reader) name() tree.Ident {
	if r.class != worded || word.Reserved(r.piece) {
		r.fail(api.ErrSyntax)
	}
	if len(r.piece) > api.MaxWord {
		r.fail(api.ErrRange)
	}
	at := r.at
	return tree.Ident{Name: r.take(), At: at}
}

// allGiven reads names that are given expressions, as many as there are.
func (r *reader) allGiven() []tree.Given {
	if r.class == ending {
		return nil
	}
	return several(r, r.given)
}

// given reads a name, and the expression that it is given.
func (r *reader) given() tree.Given {
	n := r.name()
	r.need("=")
	return tree.Given{Ident: n, Expr: r.expr()}
}

// expr reads an expression.
func (r *reader) expr() *tree.Expr {
	return r.holding(least)
}

// holding reads what holds at least so tightly, as far as it goes.
func (r *reader) holding(rank int) *tree.Expr {
	held := opening(r.piece)
	if held < rank {
		r.fail(api.ErrSyntax)
	}
	left := r.opened(held)
	for {
		g := joining(r.piece)
		if g.rank < rank || held < g.left {
			return left
		}
		left = r.joined(left, g)
		held = g.rank
	}
}

// joined reads a sign between two parts, and the second one.
func (r *reader) joined(left *tree.Expr, g grip) *tree.Expr {
	e := &tree.Expr{Sort: operator(r.piece), At: r.at}
	e.Op = r.take()
	e.Parts = []*tree.Expr{left, r.holding(g.right)}
	return e
}

// operator tells the sort of what a sign or a word makes of parts.
func operator(mark string) tree.Sort {
	switch mark {
	case "always", "eventually", "until", "leadsto":
		return tree.Time
	}
	return tree.Operator
}

// opened reads what the token begins, and no sign between parts behind it.
func (r *reader) opened(held int) *tree.Expr {
	switch held {
	case least:
		return r.binding()
	case denying, leading:
		return r.ahead(held)
	}
	return r.tight()
}

// ahead reads what has a word or a sign ahead of one part.
func (r *reader) ahead(held int) *tree.Expr {
	e := &tree.Expr{Sort: operator(r.piece), Op: r.piece, At: r.at}
	switch r.piece {
	case "enabled":
		return r.ofName(tree.Enabled)
	case "unchanged":
		return r.ofName(tree.Unchanged)
	case "-":
		e.Op = "neg"
	}
	r.enter()
	e.Parts = []*tree.Expr{r.holding(held)}
	r.leave()
	return e
}

// ofName reads a word and the name behind it.
func (r *reader) ofName(sort tree.Sort) *tree.Expr {
	at := r.at
	r.advance()
	return &tree.Expr{Sort: sort, Name: r.name().Name, At: at}
}

// binding reads what a word begins that goes as far as it can.
func (r *reader) binding() *tree.Expr {
	e, begun := &tree.Expr{At: r.at}, r.piece
	r.enter()
	switch begun {
	case "if":
		r.choice(e)
	case "let":
		r.naming(e)
	default:
		e.Op = begun
		r.bound(e)
	}
	r.leave()
	return e
}

func (r *reader) choice(e *tree.Expr) {
	asked := r.expr()
	r.need("then")
	one := r.expr()
	r.need("else")
	e.Sort, e.Parts = tree.If, []*tree.Expr{asked, one, r.expr()}
}

func (r *reader) naming(e *tree.Expr) {
	e.Sort, e.Name = tree.Let, r.name().Name
	r.need("=")
	named := r.expr()
	r.need(":")
	e.Parts = []*tree.Expr{named, r.expr()}
}

// bound reads what stands behind the word of a binder.
func (r *reader) bound(e *tree.Expr) {
	e.Sort, e.Name = tree.Bind, r.name().Name
	r.need("in")
	through := r.holding(relating)
	r.need(":")
	e.Parts = []*tree.Expr{through, r.expr()}
}

// tight reads what F3 calls first, and what stands behind it.
func (r *reader) tight() *tree.Expr {
	e := r.first()
	for {
		switch r.piece {
		case "[":
			e = r.asked(e)
		case ".":
			e = r.dotted(e)
		default:
			return e
		}
	}
}

// asked reads f[k] or f[k := v], from the bracket on.
func (r *reader) asked(f *tree.Expr) *tree.Expr {
	e := &tree.Expr{Sort: tree.Operator, Op: "at", At: r.at}
	r.enter()
	e.Parts = []*tree.Expr{f, r.expr()}
	if r.skip(":=") {
		e.Op = "put"
		e.Parts = append(e.Parts, r.expr())
	}
	r.need("]")
	r.leave()
	return e
}

// dotted reads f.n, from the point on, as f["n"].
func (r *reader) dotted(f *tree.Expr) *tree.Expr {
	at := r.at
	r.advance()
	n := r.name()
	key := &tree.Expr{Sort: tree.Text, Name: n.Name, At: n.At}
	return &tree.Expr{Sort: tree.Operator, Op: "at", At: at, Parts: []*tree.Expr{f, key}}
}

// first reads what F3 calls so.
func (r *reader) first() *tree.Expr {
	switch r.class {
	case number:
		return r.number()
	case quotation:
		e := &tree.Expr{Sort: tree.Text, Name: r.piece[1 : len(r.piece)-1], At: r.at}
		r.advance()
		return e
	case worded:
		return r.word()
	}
	return r.bracket()
}

func (r *reader) number() *tree.Expr {
	n, err := strconv.ParseInt(r.piece, 10, 64)
	if err != nil {
		r.fail(api.ErrRange)
	}
	e := &tree.Expr{Sort: tree.Number, Int: n, At: r.at}
	r.advance()
	return e
}

func (r *reader) word() *tree.Expr {
	e := &tree.Expr{Op: r.piece, At: r.at}
	switch r.piece {
	case "nil", "true", "false":
		e.Sort = tree.Fixed
		r.advance()
	case "size", "len", "head", "tail", "append", "values", "seqs":
		e.Sort = tree.Operator
		r.advance()
		if r.piece != "(" {
			r.fail(api.ErrSyntax)
		}
		e.Parts = within(r, r.expr, ")")
	default:
		return r.named()
	}
	return e
}

// named reads what a name begins.
func (r *reader) named() *tree.Expr {
	n := r.name()
	e := &tree.Expr{Sort: tree.Name, Name: n.Name, At: n.At}
	switch r.piece {
	case "'":
		e.Sort = tree.Primed
		r.advance()
	case "(":
		e.Sort = tree.Call
		e.Parts = within(r, r.expr, ")")
	}
	return e
}

// bracket reads what a bracket begins.
func (r *reader) bracket() *tree.Expr {
	e := &tree.Expr{Sort: tree.Operator, At: r.at}
	switch r.piece {
	case "(":
		r.enter()
		e = r.expr()
		r.need(")")
	case "{":
		r.enter()
		r.set(e)
	case "<<":
		r.enter()
		e.Op, e.Parts = "seq", r.any(">>")
	case "[":
		r.enter()
		e.Op = "fun"
		for _, pair := range list(r, r.pair, "]") {
			e.Parts = append(e.Parts, pair[0], pair[1])
		}
	default:
		r.fail(api.ErrSyntax)
	}
	r.leave()
	return e
}

// set reads what stands behind the bracket of a set.
func (r *reader) set(e *tree.Expr) {
	if r.piece != "each" && r.piece != "those" {
		e.Op, e.Parts = "set", r.any("}")
		return
	}
	e.Op = r.take()
	r.bound(e)
	r.need("}")
}

// any reads any number of expressions, and the bracket behind them.
func (r *reader) any(closing string) []*tree.Expr {
	if r.skip(closing) {
		return nil
	}
	return list(r, r.expr, closing)
}

// pair reads one of those that a function is written out by.
func (r *reader) pair() [2]*tree.Expr {
	key := r.expr()
	r.need(":")
	return [2]*tree.Expr{key, r.expr()}
}
