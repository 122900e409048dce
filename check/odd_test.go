package check_test

import (
	"strings"
	"testing"

	"palimpsest/api"
	"palimpsest/check"
)

// Definitions that neither a text nor a turning makes: each call ends, and answers an Info or a Fault.

// chain is an expression of a kind within another one, and so on.
func chain(kind, levels int) api.Expr {
	e := api.Expr{Kind: api.ENumber}
	for range levels {
		e = api.Expr{Kind: kind, Name: "==", Args: []api.Expr{e}}
	}
	return e
}

// ring is an expression that holds itself, so many times.
func ring(kind, times int) api.Expr {
	list := make([]api.Expr, times)
	for i := range list {
		list[i] = api.Expr{Kind: kind, Name: "+", Args: list}
	}
	return list[0]
}

// twice is an expression with two parts that are one, and so on: it has more parts than can be gone over.
func twice(levels int) api.Expr {
	e := api.Expr{Kind: api.ENumber}
	for range levels {
		e = api.Expr{Kind: api.EBinary, Name: "+", Args: []api.Expr{e, e}}
	}
	return e
}

func oddExprs() []api.Expr {
	one, two := api.Expr{Kind: api.ENumber}, api.Expr{Kind: api.EName, Name: "true"}
	list := []api.Expr{{}, twice(5), twice(70), {Kind: api.EName}, {Kind: api.EName, Name: strings.Repeat("x", 1000000)}, {Kind: api.EName, Name: "op"},
		{Kind: api.ENumber, Num: -1 << 63, At: -1 << 63}, {Kind: api.EBinary, Name: "+", Args: make([]api.Expr, 2), At: 1 << 62}}
	for kind := -1; kind <= api.EBinary+1; kind++ {
		list = append(list, api.Expr{Kind: kind}, api.Expr{Kind: kind, Args: []api.Expr{one}}, api.Expr{Kind: kind, Args: []api.Expr{one, two}},
			api.Expr{Kind: kind, Name: "+", Args: []api.Expr{one, one, two}}, api.Expr{Kind: kind, Name: "=", Args: []api.Expr{one, one}},
			api.Expr{Kind: kind, Args: make([]api.Expr, 1000000)}, chain(kind, 3), chain(kind, 1000000), ring(kind, 1), ring(kind, 2), ring(kind, 100000))
	}
	return append(list, api.Expr{Kind: 1 << 62}, api.Expr{Kind: -1 << 63})
}

func TestOddExprs(t *testing.T) {
	for _, e := range oddExprs() {
		for _, d := range []api.Def{{Needs: []api.Expr{e}}, {Give: []api.Expr{e}}, {Give: []api.Expr{e, e}}, {Needs: []api.Expr{e}, Give: []api.Expr{e}}} {
			checked(t, d)
			check.Calls(d, 1)
		}
		for kind := -1; kind <= api.SBack+1; kind++ {
			for _, exprs := range [][]api.Expr{{e}, {e, e}, {{Kind: api.ENumber}, e}} {
				checked(t, api.Def{Body: []api.Stmt{{Kind: kind, Exprs: exprs}}})
				checked(t, api.Def{Body: []api.Stmt{{Kind: kind, Exprs: exprs, Name: "a", N: 3, Body: []api.Stmt{{Kind: kind, Exprs: exprs}}}}})
			}
		}
	}
}

func TestOddStmts(t *testing.T) {
	again := make([]api.Stmt, 2)
	for i := range again {
		again[i] = api.Stmt{Kind: api.SFor, Body: again, Else: again}
	}
	deep, wide := api.Stmt{Kind: api.SFor}, make([]api.Stmt, 1000000)
	double := deep
	for i := range wide {
		wide[i] = api.Stmt{Kind: api.SBack, Body: wide}
		deep = api.Stmt{Kind: api.SFor, Body: []api.Stmt{deep}}
	}
	for range 70 {
		double = api.Stmt{Kind: api.SIf, Exprs: []api.Expr{{Kind: api.EName, Name: "true"}}, Body: []api.Stmt{double}, Else: []api.Stmt{double}}
	}
	for _, list := range [][]api.Stmt{nil, {{}}, {{Kind: 1 << 62}}, again, {deep}, wide, {double}} {
		checked(t, api.Def{Body: list})
		for kind := -1; kind <= api.SBack+1; kind++ {
			for count := range 4 {
				for _, n := range []int{0, 1, 64, 65, -1, -1 << 63, 1<<63 - 1} {
					checked(t, api.Def{Body: []api.Stmt{{Kind: kind, Exprs: make([]api.Expr, count), N: n, Body: list}}})
					checked(t, api.Def{Body: []api.Stmt{{Kind: kind, Exprs: []api.Expr{chain(api.ENeg, 1), chain(api.ENeg, 1), {}}[:min(count, 3)], N: n, Else: list}}})
				}
			}
		}
	}
}

func TestOddDefs(t *testing.T) {
	checked(t, api.Def{})
	checked(t, api.Def{Name: "é", Params: []string{"", "in", "true", strings.Repeat("x", 1000000)}})
	checked(t, api.Def{Params: make([]string, 5000000)})
	checked(t, api.Def{Needs: make([]api.Expr, 1000000), Body: make([]api.Stmt, 1000000), Give: make([]api.Expr, 1000000)})
	many := make([]api.Stmt, 480)
	for i := range many {
		many[i] = api.Stmt{Kind: api.SBack, Name: "a", N: -1 << 63}
	}
	checked(t, api.Def{Body: many})
	for i := range many {
		many[i] = api.Stmt{Kind: api.SLet, Name: strings.Repeat("a", i), Exprs: []api.Expr{{Kind: api.ENumber}}, Body: many[:i]}
	}
	checked(t, api.Def{Body: many})
	checked(t, api.Def{Body: many[:16]})
}

// What has other parts than its kind asks for is refused, so that the layers above needn't ask again. (The document leaves this free.)
func TestOtherParts(t *testing.T) {
	leaf := api.Expr{Kind: api.ENumber}
	parts := func(count int) []api.Expr {
		var list []api.Expr
		for range count {
			list = append(list, leaf)
		}
		return list
	}
	defs := []api.Def{{Give: parts(2)}, {Give: []api.Expr{twice(8)}}, {Needs: make([]api.Expr, 481)}}
	for kind, count := range map[int]int{-1: -1, 0: -1, api.ENumber: 0, api.EName: 0, api.ECell: 1, api.ENot: 1, api.ENeg: 1, api.EBinary: 2, 7: -1} {
		for given := range 4 {
			for _, sign := range []string{"+", "==", "&&", "", "!", "=", "<>", "true"} {
				if e := (api.Expr{Kind: kind, Name: sign, Args: parts(given)}); given != count || kind == api.EBinary && operators[sign][1] == "" {
					defs = append(defs, api.Def{Give: []api.Expr{e}}, api.Def{Needs: []api.Expr{{Kind: api.ENot, Args: []api.Expr{e}}}},
						api.Def{Body: []api.Stmt{{Kind: api.SLet, Name: "a", Exprs: []api.Expr{e}}}})
				}
			}
		}
	}
	counts := map[int]int{-1: -1, 0: -1, api.SLet: 1, api.SSet: 2, api.SAdd: 2, api.SSub: 2, api.SSwap: 2, api.SIf: 1, api.SFor: 0, api.SBack: 0, 9: -1}
	for kind, count := range counts {
		for given := range 4 {
			for _, n := range []int{0, -1, -1 << 63} {
				s := api.Stmt{Kind: kind, Name: "a", Exprs: parts(given), N: n}
				if given != count || n < 0 && (kind == api.SFor || kind == api.SBack) {
					defs = append(defs, api.Def{Body: []api.Stmt{s}}, api.Def{Body: []api.Stmt{{Kind: api.SFor, Name: "b", Body: []api.Stmt{s}}}},
						api.Def{Body: []api.Stmt{{Kind: api.SIf, Exprs: []api.Expr{{Kind: api.EName, Name: "true"}}, Else: []api.Stmt{s}}}})
				}
			}
		}
	}
	for _, d := range defs {
		if got := checked(t, d); got.fault != (api.Fault{Code: api.ErrForm}) {
			t.Errorf("%+v: %+v", d, got)
		}
	}
}

// Rule 4: nil and empty lists mean the same.
func TestEmptyLists(t *testing.T) {
	d := parsed(t, "op o(){need true;if true{}for i in 0..2{}}")
	want := checked(t, d)
	d.Params, d.Give = []string{}, []api.Expr{}
	d.Needs[0].Args = []api.Expr{}
	for i := range d.Body {
		d.Body[i].Body, d.Body[i].Else = []api.Stmt{}, make([]api.Stmt, 0, 4)
	}
	d.Body[1].Exprs = []api.Expr{}
	if got := checked(t, d); got != want {
		t.Error(got, want)
	}
}
