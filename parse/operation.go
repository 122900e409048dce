package parse

import "palimpsest/api"

func (p *parser) operation() api.Def {
	var d api.Def
	p.pass("op")
	d.Name = p.name()
	d.Params = p.params()
	p.deeper("{", func() {
		for p.took("need") {
			d.Needs = append(d.Needs, p.expr())
			p.pass(";")
		}
		d.Body = p.stmts()
		if p.took("give") {
			d.Give = append(d.Give, p.expr())
			p.pass(";")
		}
		p.pass("}")
	})
	if !p.isEnd() {
		p.fail()
	}
	return d
}

func (p *parser) name() string {
	return p.need(p.isName).Text
}

func (p *parser) params() []string {
	var names []string
	p.pass("(")
	if !p.sees(")") {
		names = append(names, p.name())
		for p.took(",") {
			names = append(names, p.name())
		}
	}
	p.pass(")")
	return names
}

func (p *parser) block() []api.Stmt {
	var list []api.Stmt
	p.deeper("{", func() {
		list = p.stmts()
		p.pass("}")
	})
	return list
}

func (p *parser) stmts() []api.Stmt {
	var list []api.Stmt
	for p.sees("let", "[", "if", "for") {
		list = append(list, p.stmt())
	}
	return list
}

func (p *parser) stmt() api.Stmt {
	s := api.Stmt{At: p.token().At}
	switch {
	case p.took("let"):
		p.let(&s)
	case p.took("if"):
		p.choice(&s)
	case p.took("for"):
		p.loop(&s)
	default:
		p.change(&s)
	}
	return s
}

func (p *parser) let(s *api.Stmt) {
	s.Kind = api.SLet
	s.Name = p.name()
	p.pass("=")
	s.Exprs = append(s.Exprs, p.expr())
	p.pass(";")
}

func (p *parser) choice(s *api.Stmt) {
	s.Kind = api.SIf
	s.Exprs = append(s.Exprs, p.expr())
	s.Body = p.block()
	if p.took("else") {
		s.Else = p.block()
	}
}

func (p *parser) loop(s *api.Stmt) {
	s.Kind = api.SFor
	s.Name = p.name()
	p.pass("in", "0", "..")
	s.N = p.number()
	s.Body = p.block()
}

// change reads a statement that begins with a cell.
func (p *parser) change(s *api.Stmt) {
	cell := p.index()
	second := p.expr
	switch {
	case p.took("="):
		s.Kind = api.SSet
	case p.took("+="):
		s.Kind = api.SAdd
	case p.took("-="):
		s.Kind = api.SSub
	case p.took("<>"):
		s.Kind = api.SSwap
		second = p.index
	default:
		p.fail()
	}
	s.Exprs = append(s.Exprs, cell, second())
	p.pass(";")
}
