package check

import "palimpsest/api"

// enough is a number of steps that is too great. What is greater still isn't told apart from it: loops within one another come to
// numbers that 64 bits don't hold.
const enough = api.MaxSteps + 1

// operationSteps is how many steps a definition without a fault takes at most.
func operationSteps(d api.Def) int {
	return min(exprSteps(d.Needs...)+blockSteps(d.Body)+exprSteps(d.Give...), enough)
}

func exprSteps(list ...api.Expr) int {
	steps := 0
	for _, e := range list {
		steps += 1 + exprSteps(e.Args...)
	}
	return steps
}

func blockSteps(list []api.Stmt) int {
	steps := 0
	for _, s := range list {
		steps = min(steps+stmtSteps(s), enough)
	}
	return steps
}

func stmtSteps(s api.Stmt) int {
	steps := 1 + exprSteps(s.Exprs...)
	switch s.Kind {
	case api.SIf:
		steps += max(blockSteps(s.Body), blockSteps(s.Else))
	case api.SFor, api.SBack:
		steps += s.N * (1 + blockSteps(s.Body))
	}
	return steps
}
