package eval

import (
	"palimpsest/api"
	"palimpsest/page"
)

// run is a definition's run on a page. What it runs was asked ahead of it: each part is of a form, and each name is there.
type run struct {
	api.Page
	names map[string]int // what is declared, once in the whole operation, so that no block hides another one's name
}

// cell is where a cell's value stands; nil, if there is no such cell.
func (r *run) cell(index int) *int {
	if _, ok := page.Get(r.Page, index); !ok {
		return nil
	}
	return &r.Cells[index]
}

func (r *run) block(list []api.Stmt) {
	for _, s := range list {
		r.stmt(s)
	}
}

func (r *run) stmt(s api.Stmt) {
	switch s.Kind {
	case api.SLet:
		r.names[s.Name] = r.expr(s.Exprs[0])
	case api.SIf:
		if r.expr(s.Exprs[0]) != 0 {
			r.block(s.Body)
		} else {
			r.block(s.Else)
		}
	case api.SFor:
		for i := range s.N {
			r.round(s, i)
		}
	case api.SBack:
		for i := range s.N {
			r.round(s, s.N-1-i)
		}
	case api.SSwap:
		swap(r.cell(r.expr(s.Exprs[0])), r.cell(r.expr(s.Exprs[1])))
	default:
		change(s.Kind, r.cell(r.expr(s.Exprs[0])), r.expr(s.Exprs[1]))
	}
}

// round runs a loop's block once, with its name being i.
func (r *run) round(s api.Stmt, i int) {
	r.names[s.Name] = i
	r.block(s.Body)
}

// swap swaps two cells, if both are there.
func swap(a, b *int) {
	if a != nil && b != nil {
		*a, *b = *b, *a
	}
}

// change sets a cell, adds to it or takes from it, if it is there.
func change(kind int, cell *int, value int) {
	if cell == nil {
		return
	}
	switch kind {
	case api.SSet:
		*cell = value
	case api.SAdd:
		*cell += value
	case api.SSub:
		*cell -= value
	}
}
