package form

import (
	"strings"

	"sextant/word"
)

// class is what a token is.
type class int

const (
	ending    class = iota // there is no token any more
	worded                 // a word
	number                 // a number, as far as its bytes show
	quotation              // a text
	sign
	wrong // nothing of these
)

// advance goes on to the next token.
func (r *reader) advance() {
	r.at += len(r.piece)
	r.at += between(r.text[r.at:])
	var length int
	r.class, length = token(r.text[r.at:])
	r.piece = r.text[r.at : r.at+length]
}

// between tells how many bytes stand ahead of a text's first token.
func between(text string) int {
	n := 0
	for n < len(text) {
		switch {
		case word.Blank(text[n]):
			n++
		case text[n] == '#':
			n += remark(text[n:])
		default:
			return n
		}
	}
	return n
}

// remark tells the length of the remark that a text begins with.
func remark(text string) int {
	if n := strings.IndexByte(text, '\n'); n >= 0 {
		return n
	}
	return len(text)
}

// token tells of which class the token is that a text begins with, and its length.
func token(text string) (class, int) {
	if text == "" {
		return ending, 0
	}
	switch c := text[0]; {
	case word.Letter(c):
		return worded, word.Run(text)
	case word.Part(c):
		n, ok := word.Number(text)
		return sound(number, n, ok)
	case c == '"':
		n, ok := word.Quote(text)
		return sound(quotation, n, ok)
	}
	n := signLength(text)
	return sound(sign, n, n > 0)
}

// sound is the class, unless the token is spoilt.
func sound(c class, length int, ok bool) (class, int) {
	if !ok {
		return wrong, length
	}
	return c, length
}

// signLength tells the length of the longest sign that a text begins with; 0, if it begins with none.
func signLength(text string) int {
	if len(text) > 1 {
		switch text[:2] {
		case "==", ":=", "/=", "<=", ">=", "<<", ">>", "..", "->", "++":
			return 2
		}
	}
	if strings.IndexByte("=<>+-*/%(){}[],:.'", text[0]) >= 0 {
		return 1
	}
	return 0
}
