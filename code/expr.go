package code

import (
	"slices"

	"palimpsest/api"
	"palimpsest/eval"
)

// expr makes an expression's code.
func (m *maker) expr(e api.Expr) {
	if value, ok := folded(e); ok {
		m.put(api.IPush, value)
		return
	}
	for _, part := range e.Args {
		m.expr(part)
	}
	switch e.Kind {
	case api.EName:
		m.put(api.ILocal, m.locals[e.Name])
	case api.ECell:
		m.put(api.ICell, 0)
	case api.ENot:
		m.put(api.INot, 0)
	case api.ENeg:
		m.put(api.INeg, 0)
	case api.EBinary:
		m.put(api.IDo, operator(e.Name))
	}
}

// folded is what an expression without names and cells gives; false, if it has any. Without numbers for names there are none but
// true and false.
func folded(e api.Expr) (int, bool) {
	if hasCell(e) {
		return 0, false
	}
	value, err := eval.Value(e, api.Page{}, nil)
	return value, err == nil
}

func hasCell(e api.Expr) bool {
	return e.Kind == api.ECell || slices.ContainsFunc(e.Args, hasCell)
}

// operator is an operator's number.
func operator(sign string) int {
	switch sign {
	case "+":
		return 1
	case "-":
		return 2
	case "*":
		return 3
	case "/":
		return 4
	case "%":
		return 5
	case "<":
		return 6
	case "<=":
		return 7
	case ">":
		return 8
	case ">=":
		return 9
	case "==":
		return 10
	case "!=":
		return 11
	case "&&":
		return 12
	case "||":
		return 13
	}
	return 0
}
