package check

import "palimpsest/api"

// isWhole tells whether all parts of a definition are of kinds that there are, and have what these ask for; and whether they are no
// more than a text has bytes, so that what is deeper than any text, or holds itself, is refused in time.
func isWhole(d api.Def) bool {
	c := count{left: api.MaxSource}
	return c.exprs(d.Needs) && c.stmts(d.Body) && c.exprs(d.Give) && len(d.Give) <= 1
}

// count is how many parts there may still be.
type count struct {
	left int
}

func (c *count) exprs(list []api.Expr) bool {
	for _, e := range list {
		c.left--
		if c.left < 0 || !isExpr(e) || !c.exprs(e.Args) {
			return false
		}
	}
	return true
}

func (c *count) stmts(list []api.Stmt) bool {
	for _, s := range list {
		c.left--
		if c.left < 0 || !isStmt(s) || !c.exprs(s.Exprs) || !c.stmts(s.Body) || !c.stmts(s.Else) {
			return false
		}
	}
	return true
}

// isExpr asks of an expression, but not of what is in it.
func isExpr(e api.Expr) bool {
	switch e.Kind {
	case api.ENumber, api.EName:
		return len(e.Args) == 0
	case api.ECell, api.ENot, api.ENeg:
		return len(e.Args) == 1
	case api.EBinary:
		_, whole := operator(e.Name)
		return len(e.Args) == 2 && whole != none
	}
	return false
}

// isStmt asks of a statement, but not of what is in it.
func isStmt(s api.Stmt) bool {
	switch s.Kind {
	case api.SLet, api.SIf:
		return len(s.Exprs) == 1
	case api.SSet, api.SAdd, api.SSub, api.SSwap:
		return len(s.Exprs) == 2
	case api.SFor, api.SBack:
		return len(s.Exprs) == 0 && s.N >= 0
	}
	return false
}
