package form

import "sextant/tree"

// How tightly things hold (F2); least is below the table: what if, let and their like make (F5).
const (
	none     = -1 // there is no sign
	least    = 0
	denying  = 6 // not and its like
	relating = 8 // what stands behind a binder's in
	leading  = 12
	behind   = 13
	first    = 14
)

// grip is how tightly a sign between two parts holds, and how tightly these must at least.
type grip struct {
	rank, left, right int
}

func apart(rank int) grip {
	return grip{rank, rank + 1, rank + 1}
}

func fromLeft(rank int) grip {
	return grip{rank, rank, rank + 1}
}

func fromRight(rank int) grip {
	return grip{rank, rank + 1, rank}
}

// joining tells the grip of a sign between two parts.
func joining(sign string) grip {
	switch sign {
	case "leadsto", "until":
		return apart(1)
	case "iff":
		return fromLeft(2)
	case "implies":
		return fromRight(3)
	case "or":
		return fromLeft(4)
	case "and":
		return fromLeft(5)
	case "=", "/=", "<", "<=", ">", ">=", "in", "subset":
		return apart(7)
	case "->":
		return apart(8)
	case "..":
		return apart(9)
	case "+", "-", "union", "minus", "++":
		return fromLeft(10)
	case "*", "/", "%", "inter":
		return fromLeft(11)
	}
	return grip{rank: none}
}

// opening tells how tightly that holds which a token begins.
func opening(piece string) int {
	switch piece {
	case "if", "let", "all", "some", "choose", "fun":
		return least
	case "not", "always", "eventually", "enabled":
		return denying
	case "-", "domain", "powerset", "flatten", "unchanged":
		return leading
	}
	return first
}

// holds tells how tightly an expression holds.
func holds(e *tree.Expr) int {
	switch e.Sort {
	case tree.If, tree.Let:
		return least
	case tree.Bind:
		return opening(e.Op)
	case tree.Enabled:
		return denying
	case tree.Unchanged:
		return leading
	case tree.Time, tree.Operator:
		return operatorHolds(e)
	}
	return first
}

func operatorHolds(e *tree.Expr) int {
	if rank := joining(e.Op).rank; rank != none {
		return rank
	}
	switch e.Op {
	case "at", "put":
		return behind
	case "neg":
		return leading
	case "fun": // one that is written out, in brackets
		return first
	}
	return opening(e.Op)
}
