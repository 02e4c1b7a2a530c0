package value

import (
	"strconv"
	"strings"

	"sextant/api"
	"sextant/word"
)

// Show writes a value.
func (v V) Show() string {
	var b strings.Builder
	write(&b, v.is)
	return b.String()
}

func write(b *strings.Builder, thing any) {
	switch x := thing.(type) {
	case nil:
		b.WriteString("nil")
	case bool:
		b.WriteString(strconv.FormatBool(x))
	case int64:
		b.WriteString(strconv.FormatInt(x, 10))
	case quoted:
		b.WriteString(`"` + string(x) + `"`)
	case atom:
		b.WriteString(string(x))
	case *set:
		writeList(b, "{", x.elements, "}")
	case *function:
		writeFunction(b, x)
	}
}

func writeList(b *strings.Builder, opening string, list []V, closing string) {
	b.WriteString(opening)
	for i, v := range list {
		if i > 0 {
			b.WriteString(", ")
		}
		write(b, v.is)
	}
	b.WriteString(closing)
}

func writeFunction(b *strings.Builder, f *function) {
	if f.sequence {
		writeList(b, "<<", f.gives, ">>")
		return
	}
	b.WriteString("[")
	for i, v := range f.gives {
		if i > 0 {
			b.WriteString(", ")
		}
		write(b, f.domain.elements[i].is)
		b.WriteString(": ")
		write(b, v.is)
	}
	b.WriteString("]")
}

// Read reads a value; with the first fault where it is.
func Read(text string) (V, int, error) {
	if len(text) > api.MaxText {
		return V{}, 0, api.ErrFull
	}
	r := reader{text: text}
	v, err := r.whole()
	if err != nil {
		return V{}, r.at, err
	}
	if r.heavy {
		return V{}, 0, api.ErrFull
	}
	return v, 0, nil
}

// class is what a token is.
type class int

const (
	ending    class = iota // there is no token any more
	named                  // a word
	number                 // an int, as far as its bytes show
	quotation              // a text
	sign                   // a bracket, a comma, a colon
	wrong                  // nothing of the grammar
)

// reader stands at a token. It goes no further once there is a fault, so the fault is where it stands.
type reader struct {
	text  string
	at    int // where the token begins
	end   int // where it ends
	class class
	open  int  // how many brackets are open
	heavy bool // whether a part was too heavy: that is told only if nothing else is wrong
}

// whole reads a value that nothing stands behind.
func (r *reader) whole() (V, error) {
	r.advance()
	v, err := r.value()
	if err == nil && r.class != ending {
		return V{}, api.ErrSyntax
	}
	return v, err
}

// advance goes on to the next token.
func (r *reader) advance() {
	r.at = r.end
	for r.at < len(r.text) && word.Blank(r.text[r.at]) {
		r.at++
	}
	var length int
	r.class, length = token(r.text[r.at:])
	r.end = r.at + length
}

// token tells of which class the token is that a text begins with, and its length.
func token(text string) (class, int) {
	if text == "" {
		return ending, 0
	}
	switch c := text[0]; {
	case word.Letter(c):
		return named, word.Run(text)
	case word.Digit(c):
		n, ok := word.Number(text)
		return sound(number, n, ok)
	case c == '-':
		return negative(text)
	case c == '"':
		n, ok := word.Quote(text)
		return sound(quotation, n, ok)
	case strings.HasPrefix(text, "<<"), strings.HasPrefix(text, ">>"):
		return sign, 2
	case strings.IndexByte("{}[],:", c) >= 0:
		return sign, 1
	}
	return wrong, 1
}

// sound is the class, unless the token is spoilt.
func sound(c class, length int, ok bool) (class, int) {
	if !ok {
		return wrong, length
	}
	return c, length
}

func negative(text string) (class, int) {
	if len(text) < 2 || text[1] < '1' || text[1] > '9' {
		return wrong, 1
	}
	n, ok := word.Number(text[1:])
	return sound(number, n+1, ok)
}

// value reads what the token begins.
func (r *reader) value() (V, error) {
	piece := r.text[r.at:r.end]
	switch r.class {
	case named:
		return r.name(piece)
	case number:
		n, err := strconv.ParseInt(piece, 10, 64)
		if err != nil {
			return V{}, api.ErrRange
		}
		r.advance()
		return V{n}, nil
	case quotation:
		r.advance()
		return V{quoted(strings.Clone(piece[1 : len(piece)-1]))}, nil
	case sign:
		return r.bracket(piece)
	}
	return V{}, api.ErrSyntax
}

func (r *reader) name(piece string) (V, error) {
	var v V
	switch {
	case piece == "nil":
	case piece == "true" || piece == "false":
		v = V{piece == "true"}
	case word.Reserved(piece):
		return V{}, api.ErrSyntax
	case len(piece) > api.MaxWord:
		return V{}, api.ErrRange
	default:
		v = V{atom(strings.Clone(piece))}
	}
	r.advance()
	return v, nil
}

// bracket reads what stands in brackets.
func (r *reader) bracket(piece string) (V, error) {
	var inside func() (V, error)
	switch piece {
	case "{":
		inside = r.set
	case "<<":
		inside = r.sequence
	case "[":
		inside = r.function
	default:
		return V{}, api.ErrSyntax
	}
	if r.open == api.MaxNest {
		return V{}, api.ErrFull
	}
	r.open++
	r.advance()
	v, err := inside()
	r.open--
	r.heavy = r.heavy || v.isNil()
	return v, err
}

func (r *reader) set() (V, error) {
	list, err := r.values("}")
	return setOf(list), err
}

func (r *reader) sequence() (V, error) {
	list, err := r.values(">>")
	return newSequence(list), err
}

func (r *reader) function() (V, error) {
	var pairs []pair
	err := r.list("]", func() error {
		of, err := r.value()
		if err != nil {
			return err
		}
		if !r.skip(":") {
			return api.ErrSyntax
		}
		gives, err := r.value()
		pairs = append(pairs, pair{of, gives})
		return err
	})
	return functionOf(pairs), err
}

// values reads any number of values, and the bracket behind them.
func (r *reader) values(closing string) ([]V, error) {
	if r.skip(closing) {
		return nil, nil
	}
	var list []V
	err := r.list(closing, func() error {
		v, err := r.value()
		list = append(list, v)
		return err
	})
	return list, err
}

// list reads one item or more, with commas between them, and the bracket behind them.
func (r *reader) list(closing string, item func() error) error {
	for {
		if err := item(); err != nil {
			return err
		}
		if r.skip(closing) {
			return nil
		}
		if !r.skip(",") {
			return api.ErrSyntax
		}
	}
}

// skip goes on behind a sign, if it is the one that stands here.
func (r *reader) skip(mark string) bool {
	if r.class != sign || r.text[r.at:r.end] != mark {
		return false
	}
	r.advance()
	return true
}
