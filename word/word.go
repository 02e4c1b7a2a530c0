// Package word tells words and names apart (P5): values and modules are made of the same ones.
package word

import "sextant/api"

// Letter tells whether a word may begin with a byte.
func Letter(c byte) bool {
	return 'a' <= c && c <= 'z' || 'A' <= c && c <= 'Z'
}

// Digit tells whether a byte is a digit.
func Digit(c byte) bool {
	return '0' <= c && c <= '9'
}

// Part tells whether a byte may stand within a word.
func Part(c byte) bool {
	return Letter(c) || Digit(c) || c == '_'
}

// Run tells how many bytes that may stand within a word a text begins with.
func Run(text string) int {
	n := 0
	for n < len(text) && Part(text[n]) {
		n++
	}
	return n
}

// Blank tells whether a byte may stand between tokens.
func Blank(c byte) bool {
	return c == ' ' || c == '\t' || c == '\n'
}

// Number tells the length of the number that a text begins with, and whether it is one: what stands straight behind its digits belongs to it, and spoils it.
func Number(text string) (int, bool) {
	n := Run(text)
	for _, c := range []byte(text[:n]) {
		if !Digit(c) {
			return n, false
		}
	}
	return n, n == 1 || n > 1 && text[0] != '0'
}

// Quote tells the length of the text in quotes that a text begins with, and whether it is one.
func Quote(text string) (int, bool) {
	for i := 1; i < len(text); i++ {
		switch c := text[i]; {
		case c == '"':
			return i + 1, true
		case c < 32 || c > 126 || c == '\\':
			return i, false
		}
	}
	return len(text), false
}

// IsName tells whether a text is a name, and nothing else.
func IsName(text string) bool {
	return text != "" && len(text) <= api.MaxWord && Letter(text[0]) && Run(text) == len(text) && !Reserved(text)
}

// Reserved tells whether a text is a word of the language.
func Reserved(text string) bool {
	switch text {
	case "module", "constant", "atoms", "symmetric", "variable", "define", "init", "action", "fair", "weak", "strong",
		"invariant", "property", "and", "or", "not", "implies", "iff", "in", "union", "inter", "minus", "subset",
		"powerset", "flatten", "domain", "unchanged", "enabled", "always", "eventually", "until", "leadsto", "choose",
		"all", "some", "each", "those", "fun", "if", "then", "else", "let", "nil", "true", "false", "size", "len",
		"head", "tail", "append", "values", "seqs":
		return true
	}
	return false
}
