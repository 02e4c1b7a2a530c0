package form

import (
	"sextant/api"
	"sextant/tree"
)

// module reads a module.
func (r *reader) module() *tree.Module {
	r.need("module")
	m := &tree.Module{Ident: r.name()}
	for r.class != ending {
		m.Declarations = append(m.Declarations, r.declaration())
	}
	return m
}

func (r *reader) declaration() tree.Declaration {
	d := tree.Declaration{Word: r.piece, At: r.at}
	switch r.piece {
	case "init":
		r.advance()
		d.Expr = r.expr()
	case "fair":
		r.advance()
		d.How = r.strength()
		d.Ident = r.name()
	case "symmetric":
		r.advance()
		d.Ident = r.name()
	case "constant", "variable", "action", "invariant", "property", "atoms", "define":
		r.advance()
		d.Ident = r.name()
		r.content(&d)
	default:
		r.fail(api.ErrSyntax)
	}
	return d
}

func (r *reader) strength() string {
	if r.piece != "weak" && r.piece != "strong" {
		r.fail(api.ErrSyntax)
	}
	return r.take()
}

// content reads what stands behind the name of a declaration.
func (r *reader) content(d *tree.Declaration) {
	switch d.Word {
	case "atoms":
		r.need("=")
		r.need("{")
		d.Names = list(r, r.name, "}")
		return
	case "define":
		if r.skip("(") {
			d.Names = list(r, r.name, ")")
		}
	}
	r.need(giving(d.Word))
	d.Expr = r.expr()
}

// giving is what stands between a declaration's name and its expression.
func giving(declared string) string {
	switch declared {
	case "constant":
		return "="
	case "variable":
		return "in"
	}
	return "=="
}
