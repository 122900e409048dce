package eval

import "palimpsest/api"

// form asks ahead of a run whether an expression is of a form that layer 7 makes, with names that are there. A part that no value
// hangs on, such as what is to the right of an && whose left is false, is asked like the others.
type form struct {
	names map[string]int
	left  int // how many parts there may still be: one that holds itself has more than any text
}

func (f *form) has(e api.Expr) bool {
	f.left--
	if f.left < 0 || !f.fits(e) {
		return false
	}
	for _, part := range e.Args {
		if !f.has(part) {
			return false
		}
	}
	return true
}

// fits asks of an expression, but not of what is in it.
func (f *form) fits(e api.Expr) bool {
	switch e.Kind {
	case api.ENumber:
		return len(e.Args) == 0
	case api.EName:
		_, ok := named(e.Name, f.names)
		return ok && len(e.Args) == 0
	case api.ECell, api.ENot, api.ENeg:
		return len(e.Args) == 1
	case api.EBinary:
		_, ok := operate(e.Name, 0, 0)
		return ok && len(e.Args) == 2
	}
	return false
}
