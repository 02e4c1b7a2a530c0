// Package tree has what expressions and modules are once they are read (F3, F6): form makes it, the layers below go through it.
package tree

// Sort is what an expression is.
type Sort int

// The sorts of expressions, each with what of an Expr it has.
const (
	Number    Sort = iota // Int
	Text                  // Name: what stands within its quotes
	Fixed                 // Op: nil, true or false
	Name                  // Name
	Primed                // Name
	Call                  // Name, Parts
	Unchanged             // Name
	Enabled               // Name
	If                    // three Parts
	Let                   // Name, two Parts: the name is the first one within the second
	Bind                  // Op: all, some, choose, fun, each or those; Name, two Parts: the name goes through the first one within the second
	Time                  // Op: always, eventually, until or leadsto; Parts
	Operator              // Op: as V4 names it; Parts
)

// Expr is an expression. Nobody changes it once it is read, so its parts may be shared.
type Expr struct {
	Sort  Sort
	Op    string
	Name  string
	Int   int64
	At    int // where it begins; what has a sign between or behind its parts begins at the sign
	Parts []*Expr
}

// Ident is a name, where it stands.
type Ident struct {
	Name string
	At   int
}

// Given is a name that is given an expression.
type Given struct {
	Ident Ident
	Expr  *Expr
}

// Declaration is one of a module's. What its word does not have is empty.
type Declaration struct {
	Word  string // constant, atoms, symmetric, variable, define, init, action, fair, invariant or property
	At    int    // where the word stands
	Ident Ident
	Names []Ident // the atoms, or the names in brackets of a definition
	How   string  // weak or strong
	Expr  *Expr
}

// Module is a module.
type Module struct {
	Ident        Ident
	Declarations []Declaration
}
