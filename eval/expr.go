package eval

import (
	"palimpsest/api"
	"palimpsest/page"
)

// expr is what an expression gives: of a truth 1 or 0.
func (r *run) expr(e api.Expr) int {
	switch e.Kind {
	case api.EName:
		value, _ := named(e.Name, r.names)
		return value
	case api.ECell:
		value, _ := page.Get(r.Page, r.expr(e.Args[0]))
		return value
	case api.ENot:
		return truth(r.expr(e.Args[0]) == 0)
	case api.ENeg:
		return -r.expr(e.Args[0])
	case api.EBinary:
		value, _ := operate(e.Name, r.expr(e.Args[0]), r.expr(e.Args[1]))
		return value
	}
	return e.Num
}

// named is what a name stands for; false, if it isn't there. True and false are no names that anything declares.
func named(name string, names map[string]int) (int, bool) {
	if name == "true" || name == "false" {
		return truth(name == "true"), true
	}
	value, ok := names[name]
	return value, ok
}

func truth(yes bool) int {
	if yes {
		return 1
	}
	return 0
}

// operate is what an operator makes of two numbers; false, if there is no such operator.
func operate(sign string, a, b int) (int, bool) {
	switch sign {
	case "+":
		return a + b, true
	case "-":
		return a - b, true
	case "*":
		return a * b, true
	case "/":
		if b == 0 {
			return 0, true
		}
		return a / b, true
	case "%":
		if b == 0 {
			return 0, true
		}
		return a % b, true
	case "<":
		return truth(a < b), true
	case "<=":
		return truth(a <= b), true
	case ">":
		return truth(a > b), true
	case ">=":
		return truth(a >= b), true
	case "==":
		return truth(a == b), true
	case "!=":
		return truth(a != b), true
	case "&&":
		return truth(a != 0 && b != 0), true
	case "||":
		return truth(a != 0 || b != 0), true
	}
	return 0, false
}
