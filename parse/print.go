package parse

import (
	"strconv"

	"palimpsest/api"
)

// How tight an expression is: one of a lower level stands in brackets where a higher one is asked.
const (
	looseLevel = iota
	orLevel
	andLevel
	testLevel
	sumLevel
	termLevel
	unaryLevel
	primaryLevel
)

// Print is a definition's text, the shortest there is, so it isn't too long if any isn't.
func Print(d api.Def) string {
	l := limit{left: api.MaxSource}
	if !l.exprs(d.Needs) || !l.stmts(d.Body) || !l.exprs(d.Give) {
		return ""
	}
	var p printer
	p.operation(d)
	return string(p.text)
}

// PrintExpr is an expression's text, the shortest there is.
func PrintExpr(e api.Expr) string {
	l := limit{left: api.MaxSource}
	if !l.expr(e) {
		return ""
	}
	var p printer
	p.expr(e, looseLevel)
	return string(p.text)
}

// printer lays tokens one behind the other.
type printer struct {
	text []byte
}

func isWordByte(c byte) bool {
	return c >= '0' && c <= '9' || c >= 'a' && c <= 'z' || c >= 'A' && c <= 'Z' || c == '_'
}

// put lays tokens, with a blank where two would be read as one. (No two signs that stand side by side in a form would.)
func (p *printer) put(tokens ...string) {
	for _, token := range tokens {
		size := len(p.text)
		if size > 0 && token != "" && isWordByte(p.text[size-1]) && isWordByte(token[0]) {
			p.text = append(p.text, ' ')
		}
		p.text = append(p.text, token...)
	}
}

func (p *printer) operation(d api.Def) {
	p.put("op", d.Name, "(")
	for i, name := range d.Params {
		if i > 0 {
			p.put(",")
		}
		p.put(name)
	}
	p.put(")", "{")
	for _, e := range d.Needs {
		p.put("need")
		p.expr(e, looseLevel)
		p.put(";")
	}
	p.stmts(d.Body)
	for _, e := range d.Give {
		p.put("give")
		p.expr(e, looseLevel)
		p.put(";")
	}
	p.put("}")
}

func (p *printer) stmts(list []api.Stmt) {
	for _, s := range list {
		p.stmt(s)
	}
}

func (p *printer) block(list []api.Stmt) {
	p.put("{")
	p.stmts(list)
	p.put("}")
}

func (p *printer) stmt(s api.Stmt) {
	switch s.Kind {
	case api.SLet:
		p.put("let", s.Name, "=")
		p.expr(s.Exprs[0], looseLevel)
		p.put(";")
	case api.SIf:
		p.put("if")
		p.expr(s.Exprs[0], looseLevel)
		p.block(s.Body)
		if len(s.Else) > 0 {
			p.put("else")
			p.block(s.Else)
		}
	case api.SFor:
		p.put("for", s.Name, "in", "0", "..", strconv.Itoa(s.N))
		p.block(s.Body)
	default:
		p.change(s)
	}
}

// change lays a statement that begins with a cell.
func (p *printer) change(s api.Stmt) {
	p.index(s.Exprs[0])
	switch s.Kind {
	case api.SSet:
		p.put("=")
	case api.SAdd:
		p.put("+=")
	case api.SSub:
		p.put("-=")
	}
	if s.Kind == api.SSwap {
		p.put("<>")
		p.index(s.Exprs[1])
	} else {
		p.expr(s.Exprs[1], looseLevel)
	}
	p.put(";")
}

// index lays what stands for a cell.
func (p *printer) index(e api.Expr) {
	p.put("[")
	p.expr(e, looseLevel)
	p.put("]")
}

// expr lays an expression where one of a level, or of a higher one, may stand without brackets.
func (p *printer) expr(e api.Expr, least int) {
	own := level(e)
	if own < least {
		p.put("(")
		p.expr(e, looseLevel)
		p.put(")")
		return
	}
	switch e.Kind {
	case api.ENumber:
		p.put(strconv.Itoa(e.Num))
	case api.EName:
		p.put(e.Name)
	case api.ECell:
		p.index(e.Args[0])
	case api.ENot:
		p.put("!")
		p.expr(e.Args[0], unaryLevel)
	case api.ENeg:
		p.put("-")
		p.expr(e.Args[0], unaryLevel)
	case api.EBinary:
		p.binary(e, own)
	}
}

func (p *printer) binary(e api.Expr, own int) {
	left := own
	if own == testLevel {
		left++ // a test has one operator at most
	}
	p.expr(e.Args[0], left)
	p.put(e.Name)
	p.expr(e.Args[1], own+1)
}

func level(e api.Expr) int {
	switch e.Kind {
	case api.EBinary:
		return operatorLevel(e.Name)
	case api.ENot, api.ENeg:
		return unaryLevel
	}
	return primaryLevel
}

func operatorLevel(operator string) int {
	switch operator {
	case "||":
		return orLevel
	case "&&":
		return andLevel
	case "<", "<=", ">", ">=", "==", "!=":
		return testLevel
	case "+", "-":
		return sumLevel
	case "*", "/", "%":
		return termLevel
	}
	return looseLevel
}
