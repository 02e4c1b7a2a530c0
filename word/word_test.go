package word

import (
	"strings"
	"testing"
)

// The words of the language, as the document lists them.
const listed = "module constant atoms symmetric variable define init action fair weak strong invariant property and or not implies iff in union inter minus subset powerset flatten domain unchanged enabled always eventually until leadsto choose all some each those fun if then else let nil true false size len head tail append values seqs"

func TestP5WordsOfTheLanguage(t *testing.T) {
	for _, w := range strings.Fields(listed) {
		if !Reserved(w) || IsName(w) {
			t.Errorf("%q: a word of the language is no name", w)
		}
		for _, other := range []string{w + "_", w + "1", "x" + w, strings.ToUpper(w)} {
			if Reserved(other) || !IsName(other) {
				t.Errorf("%q: is a name", other)
			}
		}
	}
}

func TestP5Names(t *testing.T) {
	for _, name := range []string{"a", "Z", "a_", "a1", "left", "abcdefghijklmnop", "inx", "A_0_z"} {
		if !IsName(name) {
			t.Errorf("%q: is a name", name)
		}
	}
	for _, none := range []string{"", "_", "_a", "1", "1a", "a b", "a-", "abcdefghijklmnopq", "\u00e9", "a\u00e9", "a\x00", "in", "@", "[", "`", "{"} {
		if IsName(none) {
			t.Errorf("%q: is no name", none)
		}
	}
}

func TestP5RunIsAsLongAsThereIs(t *testing.T) {
	for text, n := range map[string]int{"": 0, "a": 1, "a b": 1, "_9aZ,": 4, "-a": 0, "a\xffb": 1, "abcdefghijklmnopqrst": 20} {
		if got := Run(text); got != n {
			t.Errorf("Run(%q) = %d, want %d", text, got, n)
		}
	}
}

// All bytes, so that none beside letters, digits and _ slips in.
func TestP5Bytes(t *testing.T) {
	const letters = "abcdefghijklmnopqrstuvwxyzABCDEFGHIJKLMNOPQRSTUVWXYZ"
	const digits = "0123456789"
	for i := range 256 {
		c := byte(i)
		if Letter(c) != (strings.IndexByte(letters, c) >= 0) {
			t.Errorf("Letter(%d)", i)
		}
		if Digit(c) != (strings.IndexByte(digits, c) >= 0) {
			t.Errorf("Digit(%d)", i)
		}
		if Part(c) != (strings.IndexByte(letters+digits+"_", c) >= 0) {
			t.Errorf("Part(%d)", i)
		}
	}
}

func TestP5Numbers(t *testing.T) {
	for text, want := range map[string]struct {
		n  int
		ok bool
	}{"0": {1, true}, "7,": {1, true}, "10 ": {2, true}, "00": {2, false}, "01": {2, false}, "1a": {2, false}, "1_ ": {2, false}, "_": {1, false}, "_1": {2, false}, "a": {1, false}, "-": {0, false}, "": {0, false}, "907-": {3, true}} {
		if n, ok := Number(text); n != want.n || ok != want.ok {
			t.Errorf("Number(%q) = %d, %v", text, n, ok)
		}
	}
}

func TestP5Quotes(t *testing.T) {
	for text, want := range map[string]int{`""`: 2, `"a"b`: 3, `" ~"`: 4, `""""`: 2} {
		if n, ok := Quote(text); n != want || !ok {
			t.Errorf("Quote(%q) = %d, %v", text, n, ok)
		}
	}
	for _, text := range []string{`"`, `"a`, "\"\n\"", `"\"`, "\"\x1f\"", "\"\x7f\"", "\"\x80\""} {
		if _, ok := Quote(text); ok {
			t.Errorf("Quote(%q): is none", text)
		}
	}
}

func TestP5Blanks(t *testing.T) {
	for i := range 256 {
		if Blank(byte(i)) != (i == 9 || i == 10 || i == 32) {
			t.Errorf("Blank(%d)", i)
		}
	}
}
