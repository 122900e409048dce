package parse

import (
	"slices"

	"palimpsest/api"
)

// Same tells whether two definitions are the same, but for places.
func Same(a, b api.Def) bool {
	return a.Name == b.Name && slices.Equal(a.Params, b.Params) &&
		sameExprs(a.Needs, b.Needs) && sameStmts(a.Body, b.Body) && sameExprs(a.Give, b.Give)
}

// pair is two lists that must be the same.
type pair[T any] struct {
	a, b []T
}

// sameLists tells whether two lists are the same, and all lists that stand within them: same holds two items against each other,
// within tells an item's lists. Definitions needn't come from a text, so they may be deeper than calls can be.
func sameLists[T any](a, b []T, same func(x, y T) bool, within func(x T) [2][]T) bool {
	work := []pair[T]{{a, b}}
	for len(work) > 0 {
		lists := work[len(work)-1]
		work = work[:len(work)-1]
		if !slices.EqualFunc(lists.a, lists.b, same) {
			return false
		}
		for i := range lists.a {
			parts, others := within(lists.a[i]), within(lists.b[i])
			for k := range parts {
				if len(parts[k]) > 0 || len(others[k]) > 0 {
					work = append(work, pair[T]{parts[k], others[k]})
				}
			}
		}
	}
	return true
}

func sameExprs(a, b []api.Expr) bool {
	same := func(x, y api.Expr) bool {
		return x.Kind == y.Kind && x.Num == y.Num && x.Name == y.Name
	}
	return sameLists(a, b, same, func(x api.Expr) [2][]api.Expr {
		return [2][]api.Expr{x.Args}
	})
}

func sameStmts(a, b []api.Stmt) bool {
	same := func(x, y api.Stmt) bool {
		return x.Kind == y.Kind && x.Name == y.Name && x.N == y.N && sameExprs(x.Exprs, y.Exprs)
	}
	return sameLists(a, b, same, func(x api.Stmt) [2][]api.Stmt {
		return [2][]api.Stmt{x.Body, x.Else}
	})
}
