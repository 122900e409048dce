package parse

import (
	"strconv"

	"palimpsest/api"
)

func (p *parser) expr() api.Expr {
	return p.chain(p.and, "||")
}

func (p *parser) and() api.Expr {
	return p.chain(p.test, "&&")
}

func (p *parser) test() api.Expr {
	left := p.sum()
	if p.sees("<", "<=", ">", ">=", "==", "!=") {
		return p.binary(left, p.sum)
	}
	return left
}

func (p *parser) sum() api.Expr {
	return p.chain(p.term, "+", "-")
}

func (p *parser) term() api.Expr {
	return p.chain(p.unary, "*", "/", "%")
}

// chain reads parts with these operators between, taken from the left.
func (p *parser) chain(part func() api.Expr, operators ...string) api.Expr {
	left := part()
	for p.sees(operators...) {
		left = p.binary(left, part)
	}
	return left
}

// binary reads an operator and what is to its right.
func (p *parser) binary(left api.Expr, part func() api.Expr) api.Expr {
	operator := p.take()
	return api.Expr{Kind: api.EBinary, Name: operator.Text, Args: []api.Expr{left, part()}, At: operator.At}
}

func (p *parser) unary() api.Expr {
	switch {
	case p.sees("!"):
		return p.signed(api.ENot)
	case p.sees("-"):
		return p.signed(api.ENeg)
	}
	return p.primary()
}

// signed reads a unary sign and what it stands ahead of.
func (p *parser) signed(kind int) api.Expr {
	sign := p.token()
	e := api.Expr{Kind: kind, At: sign.At}
	p.deeper(sign.Text, func() {
		e.Args = append(e.Args, p.unary())
	})
	return e
}

func (p *parser) primary() api.Expr {
	e := api.Expr{At: p.token().At}
	switch {
	case p.isNumber():
		e.Kind = api.ENumber
		e.Num = p.number()
	case p.isName() || p.sees("true", "false"):
		e.Kind = api.EName
		e.Name = p.take().Text
	case p.sees("["):
		e.Kind = api.ECell
		e.Args = append(e.Args, p.index())
	case p.sees("("):
		e = p.bracketed("(", ")")
	default:
		p.fail()
	}
	return e
}

func (p *parser) number() int {
	// No number of layer 6 is too great for 64 bits.
	n, _ := strconv.Atoi(p.need(p.isNumber).Text)
	return n
}

// index reads what stands for a cell.
func (p *parser) index() api.Expr {
	return p.bracketed("[", "]")
}

func (p *parser) bracketed(begin, end string) api.Expr {
	var e api.Expr
	p.deeper(begin, func() {
		e = p.expr()
		p.pass(end)
	})
	return e
}
