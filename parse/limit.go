package parse

import "palimpsest/api"

// limit counts the expressions and statements that a text may still have, so that what is deeper than any text, or holds itself,
// is refused in time. What it lets pass has the parts that its kinds ask for.
type limit struct {
	left int
}

func (l *limit) expr(e api.Expr) bool {
	l.left--
	return l.left >= 0 && len(e.Args) == exprArgs(e.Kind) && l.exprs(e.Args)
}

func (l *limit) exprs(list []api.Expr) bool {
	for _, e := range list {
		if !l.expr(e) {
			return false
		}
	}
	return true
}

func (l *limit) stmts(list []api.Stmt) bool {
	for _, s := range list {
		l.left--
		if l.left < 0 || len(s.Exprs) != stmtExprs(s.Kind) || !l.exprs(s.Exprs) || !l.stmts(s.Body) || !l.stmts(s.Else) {
			return false
		}
	}
	return true
}

// exprArgs is how many parts an expression of a kind has, -1 if no text has the kind.
func exprArgs(kind int) int {
	switch kind {
	case api.ENumber, api.EName:
		return 0
	case api.ECell, api.ENot, api.ENeg:
		return 1
	case api.EBinary:
		return 2
	}
	return -1
}

// stmtExprs is how many expressions a statement of a kind has, -1 if no text has the kind.
func stmtExprs(kind int) int {
	switch kind {
	case api.SFor:
		return 0
	case api.SLet, api.SIf:
		return 1
	case api.SSet, api.SAdd, api.SSub, api.SSwap:
		return 2
	}
	return -1
}
