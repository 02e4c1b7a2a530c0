package form

import (
	"strconv"
	"strings"

	"sextant/tree"
	"sextant/word"
)

// writer writes what was read once more (F5, F6).
type writer struct {
	strings.Builder
}

func (w *writer) put(pieces ...string) {
	for _, p := range pieces {
		w.WriteString(p)
	}
}

// part writes an expression where one is asked for that holds at least so tightly.
func (w *writer) part(e *tree.Expr, asked int) {
	if holds(e) >= asked {
		w.expr(e)
		return
	}
	w.put("(")
	w.expr(e)
	w.put(")")
}

func (w *writer) expr(e *tree.Expr) {
	switch e.Sort {
	case tree.Number:
		w.put(strconv.FormatInt(e.Int, 10))
	case tree.Text:
		w.put(`"`, e.Name, `"`)
	case tree.Fixed:
		w.put(e.Op)
	case tree.Name:
		w.put(e.Name)
	case tree.Primed:
		w.put(e.Name, "'")
	case tree.Call:
		w.list(e.Name+"(", e.Parts, ")")
	case tree.Unchanged:
		w.put("unchanged ", e.Name)
	case tree.Enabled:
		w.put("enabled ", e.Name)
	case tree.If:
		w.choice(e)
	case tree.Let:
		w.put("let ", e.Name, " = ")
		w.expr(e.Parts[0])
		w.put(" : ")
		w.expr(e.Parts[1])
	case tree.Bind:
		w.bind(e)
	case tree.Time, tree.Operator:
		w.operator(e)
	}
}

// list writes expressions, with commas between them and brackets around.
func (w *writer) list(opening string, parts []*tree.Expr, closing string) {
	w.put(opening)
	for i, p := range parts {
		if i > 0 {
			w.put(", ")
		}
		w.expr(p)
	}
	w.put(closing)
}

func (w *writer) choice(e *tree.Expr) {
	w.put("if ")
	w.expr(e.Parts[0])
	w.put(" then ")
	w.expr(e.Parts[1])
	w.put(" else ")
	w.expr(e.Parts[2])
}

func (w *writer) bind(e *tree.Expr) {
	inBrackets := opening(e.Op) == first
	if inBrackets {
		w.put("{")
	}
	w.put(e.Op, " ", e.Name, " in ")
	w.part(e.Parts[0], relating)
	w.put(" : ")
	w.expr(e.Parts[1])
	if inBrackets {
		w.put("}")
	}
}

func (w *writer) operator(e *tree.Expr) {
	if g := joining(e.Op); g.rank != none {
		w.part(e.Parts[0], g.left)
		w.put(" ", e.Op, " ")
		w.part(e.Parts[1], g.right)
		return
	}
	switch e.Op {
	case "set":
		w.list("{", e.Parts, "}")
	case "seq":
		w.list("<<", e.Parts, ">>")
	case "fun":
		w.function(e.Parts)
	case "at":
		w.asked(e.Parts[0], e.Parts[1])
	case "put":
		w.part(e.Parts[0], behind)
		w.put("[")
		w.expr(e.Parts[1])
		w.put(" := ")
		w.expr(e.Parts[2])
		w.put("]")
	case "neg":
		w.put("-")
		w.part(e.Parts[0], leading)
	default:
		w.worded(e)
	}
}

// function writes one that is written out, key by key.
func (w *writer) function(parts []*tree.Expr) {
	w.put("[")
	for i, p := range parts {
		switch {
		case i%2 == 1:
			w.put(": ")
		case i > 0:
			w.put(", ")
		}
		w.expr(p)
	}
	w.put("]")
}

func (w *writer) asked(f, key *tree.Expr) {
	w.part(f, behind)
	if key.Sort == tree.Text && word.IsName(key.Name) {
		w.put(".", key.Name)
		return
	}
	w.put("[")
	w.expr(key)
	w.put("]")
}

// worded writes what has a word ahead: of one part, or of a list in brackets.
func (w *writer) worded(e *tree.Expr) {
	if rank := opening(e.Op); rank != first {
		w.put(e.Op, " ")
		w.part(e.Parts[0], rank)
		return
	}
	w.list(e.Op+"(", e.Parts, ")")
}

func (w *writer) module(m *tree.Module) {
	w.put("module ", m.Ident.Name, "\n")
	for _, d := range m.Declarations {
		w.declaration(d)
		w.put("\n")
	}
}

func (w *writer) declaration(d tree.Declaration) {
	w.put(d.Word)
	for _, piece := range []string{d.How, d.Ident.Name} {
		if piece != "" {
			w.put(" ", piece)
		}
	}
	switch d.Word {
	case "atoms":
		w.put(" = ")
		w.names("{", d.Names, "}")
	case "define":
		if len(d.Names) > 0 {
			w.names("(", d.Names, ")")
		}
	}
	if d.Expr != nil {
		w.content(d)
	}
}

// content writes the expression of a declaration, and what stands between it and the name.
func (w *writer) content(d tree.Declaration) {
	if d.Word != "init" {
		w.put(" ", giving(d.Word))
	}
	w.put(" ")
	w.expr(d.Expr)
}

func (w *writer) names(opening string, names []tree.Ident, closing string) {
	w.put(opening)
	for i, n := range names {
		if i > 0 {
			w.put(", ")
		}
		w.put(n.Name)
	}
	w.put(closing)
}
