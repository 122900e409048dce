package parse_test

import (
	"slices"
	"testing"

	"palimpsest/api"
	"palimpsest/parse"
)

// same holds what Same answers of two definitions, in either order.
func same(t *testing.T, a, b api.Def, want bool) {
	t.Helper()
	if parse.Same(a, b) != want || parse.Same(b, a) != want {
		t.Errorf("%s and %s: same is %v, want %v", plain(a), plain(b), !want, want)
	}
}

func TestSameTexts(t *testing.T) {
	for _, one := range ordinary() {
		for _, two := range ordinary() {
			same(t, parsed(t, one), parsed(t, two), one == two)
		}
	}
	for _, two := range [][2]string{
		{"op o(){}", "op\no ( ) { # none\n }"},
		{"op o(a){give a;}", "op o(a){give (a);}"},
		{"op o(){if a{}}", "op o(){if a{}else{}}"},
		{"op o(){give 1-2-3;}", "op o(){give (1-2)-3;}"},
	} {
		same(t, parsed(t, two[0]), parsed(t, two[1]), true)
	}
}

// Definitions that differ in one part.
func TestSameButForOnePart(t *testing.T) {
	for _, two := range [][2]string{
		{"op o(){}", "op p(){}"}, {"op o(){}", "op O(){}"}, {"op o(){}", "op o(a){}"}, {"op o(a){}", "op o(b){}"}, {"op o(a,b){}",
			"op o(b,a){}"}, {"op o(a){}", "op o(a,a){}"},
		{"op o(){}", "op o(){need a;}"}, {"op o(){need a;}", "op o(){need b;}"}, {"op o(){need a;}", "op o(){need a;need a;}"},
		{"op o(){need a;need b;}", "op o(){need b;need a;}"},
		{"op o(){}", "op o(){give 1;}"}, {"op o(){give 1;}", "op o(){give 2;}"}, {"op o(){need 1;}", "op o(){give 1;}"},
		{"op o(){give 1;}", "op o(){give a;}"}, {"op o(){give a;}", "op o(){give b;}"}, {"op o(){give true;}", "op o(){give false;}"},
		{"op o(){give a;}", "op o(){give [a];}"},
		{"op o(){give -a;}", "op o(){give !a;}"}, {"op o(){give -a;}", "op o(){give [a];}"}, {"op o(){give -a;}", "op o(){give a;}"},
		{"op o(){give --a;}", "op o(){give -a;}"}, {"op o(){give -1;}", "op o(){give -2;}"},
		{"op o(){give a+b;}", "op o(){give a-b;}"}, {"op o(){give a+b;}", "op o(){give b+a;}"}, {"op o(){give a<b;}", "op o(){give a<=b;}"},
		{"op o(){give a-b-c;}", "op o(){give a-(b-c);}"}, {"op o(){give a+b;}", "op o(){give a+c;}"}, {"op o(){give [[a]];}",
			"op o(){give [[b]];}"},
		{"op o(){let a=1;}", "op o(){let b=1;}"}, {"op o(){let a=1;}", "op o(){let a=2;}"}, {"op o(){let a=1;}",
			"op o(){let a=1;let a=1;}"}, {"op o(){let a=1;let b=1;}", "op o(){let b=1;let a=1;}"},
		{"op o(){[0]=1;}", "op o(){[0]+=1;}"}, {"op o(){[0]-=1;}", "op o(){[0]+=1;}"}, {"op o(){[0]=1;}", "op o(){[0]<>[1];}"},
		{"op o(){[0]=1;}", "op o(){[1]=0;}"}, {"op o(){[0]=1;}", "op o(){[0]=2;}"}, {"op o(){[0]<>[1];}", "op o(){[1]<>[0];}"},
		{"op o(){[0]=1;}", "op o(){[0]=[1];}"},
		{"op o(){if a{}}", "op o(){if b{}}"}, {"op o(){if a{}}", "op o(){if a{[0]=1;}}"}, {"op o(){if a{[0]=1;}}",
			"op o(){if a{}else{[0]=1;}}"}, {"op o(){if a{}else{[0]=1;}}", "op o(){if a{}else{[0]=2;}}"}, {"op o(){if a{[0]=1;}}",
			"op o(){if a{[0]=2;}}"},
		{"op o(){if a{[0]=1;}}", "op o(){if a{}[0]=1;}"}, {"op o(){if a{if b{}}}", "op o(){if a{if c{}}}"},
		{"op o(){if a{}else{if b{}else{[0]=1;}}}", "op o(){if a{}else{if b{}else{[0]=0;}}}"},
		{"op o(){for i in 0..1{}}", "op o(){for i in 0..2{}}"}, {"op o(){for i in 0..1{}}", "op o(){for k in 0..1{}}"},
		{"op o(){for i in 0..1{}}", "op o(){for i in 0..1{[0]=1;}}"}, {"op o(){for i in 0..1{[0]=1;}}",
			"op o(){for i in 0..1{[0]=i;}}"}, {"op o(){for i in 0..1{}}", "op o(){}"},
	} {
		same(t, parsed(t, two[0]), parsed(t, two[1]), false)
	}
}

// full is a definition in which every field of every part has a value, places too; its lists have spare room.
func full() api.Def {
	leaf := func(n int) []api.Expr {
		return append(make([]api.Expr, 0, 3), api.Expr{Kind: n, Num: n, Name: "n", At: n}, api.Expr{Kind: n, Args: []api.Expr{{Kind: 5}}})
	}
	stmt := func() api.Stmt {
		return api.Stmt{Kind: 6, Name: "s", Exprs: leaf(3), N: 4, At: 5}
	}
	s := stmt()
	s.Body, s.Else = []api.Stmt{stmt(), stmt()}, []api.Stmt{stmt()}
	return api.Def{Name: "f", Params: []string{"a", "b"}, Needs: leaf(1), Body: []api.Stmt{s, stmt()}, Give: leaf(2)}
}

// Same holds for whatever definitions, every field counts but the places.
func TestSameFields(t *testing.T) {
	same(t, full(), full(), true)
	same(t, api.Def{}, api.Def{}, true)
	same(t, full(), api.Def{}, false)
	changes := []func(d *api.Def){
		func(d *api.Def) { d.Name = "" }, func(d *api.Def) { d.Params[1] = "c" }, func(d *api.Def) { d.Params = d.Params[:1] },
		func(d *api.Def) { d.Params = nil },
		func(d *api.Def) { d.Needs = d.Needs[:1] }, func(d *api.Def) { d.Give = nil }, func(d *api.Def) { d.Body = d.Body[:1] },
		func(d *api.Def) { d.Needs, d.Give = d.Give, d.Needs },
		func(d *api.Def) { slices.Reverse(d.Body) }, func(d *api.Def) { slices.Reverse(d.Needs) },
	}
	for _, expr := range []func(d *api.Def) *api.Expr{
		func(d *api.Def) *api.Expr { return &d.Needs[0] }, func(d *api.Def) *api.Expr { return &d.Give[1] },
		func(d *api.Def) *api.Expr { return &d.Give[1].Args[0] },
		func(d *api.Def) *api.Expr { return &d.Body[0].Exprs[1] },
		func(d *api.Def) *api.Expr { return &d.Body[0].Body[1].Exprs[1].Args[0] },
		func(d *api.Def) *api.Expr { return &d.Body[0].Else[0].Exprs[0] },
	} {
		changes = append(changes, func(d *api.Def) { expr(d).Kind++ }, func(d *api.Def) { expr(d).Num++ }, func(d *api.Def) { expr(d).Name += "x" },
			func(d *api.Def) { expr(d).Args = append(expr(d).Args, api.Expr{}) })
	}
	for _, stmt := range []func(d *api.Def) *api.Stmt{
		func(d *api.Def) *api.Stmt { return &d.Body[0] }, func(d *api.Def) *api.Stmt { return &d.Body[1] },
		func(d *api.Def) *api.Stmt { return &d.Body[0].Body[1] }, func(d *api.Def) *api.Stmt { return &d.Body[0].Else[0] },
	} {
		changes = append(changes, func(d *api.Def) { stmt(d).Kind++ }, func(d *api.Def) { stmt(d).N++ }, func(d *api.Def) { stmt(d).Name += "x" },
			func(d *api.Def) { stmt(d).Exprs = stmt(d).Exprs[:1] }, func(d *api.Def) { stmt(d).Body = append(stmt(d).Body, api.Stmt{}) },
			func(d *api.Def) { stmt(d).Else = append(stmt(d).Else, api.Stmt{}) })
	}
	changes = append(changes, func(d *api.Def) { d.Body[0].Body, d.Body[0].Else = d.Body[0].Else, d.Body[0].Body })
	for i, change := range changes {
		d := full()
		change(&d)
		if parse.Same(d, full()) || parse.Same(full(), d) {
			t.Errorf("change %d isn't told", i)
		}
	}
}

func TestSameButForPlaces(t *testing.T) {
	d := full()
	d.Needs[0].At, d.Give[1].At, d.Give[1].Args[0].At, d.Body[0].At, d.Body[0].Exprs[1].At = 100, 101, 102, 103, 104
	d.Body[0].Body[1].At, d.Body[0].Else[0].At, d.Body[0].Else[0].Exprs[0].At = 105, 106, -107
	same(t, d, full(), true)
}

// Rule 4
func TestSameEmptyLists(t *testing.T) {
	d := api.Def{Needs: []api.Expr{{Kind: 1}}, Body: []api.Stmt{{Kind: 6}}}
	e := api.Def{Params: []string{}, Needs: []api.Expr{{Kind: 1, Args: []api.Expr{}}}, Body: []api.Stmt{{Kind: 6, Exprs: []api.Expr{},
		Body: []api.Stmt{}, Else: make([]api.Stmt, 0, 9)}}, Give: []api.Expr{}}
	same(t, d, e, true)
}

// Definitions that are deeper than any text.
func TestSameDeep(t *testing.T) {
	a, b := api.Def{Give: []api.Expr{chain(api.ENeg, 2000000)}}, api.Def{Give: []api.Expr{chain(api.ENeg, 2000000)}}
	if !parse.Same(a, b) {
		t.Error("expressions")
	}
	leaf := &b.Give[0]
	for len(leaf.Args) > 0 {
		leaf = &leaf.Args[0]
	}
	leaf.Num++
	if parse.Same(a, b) || parse.Same(b, a) {
		t.Error("expressions that differ")
	}
	deep := func(levels int) api.Def {
		var list []api.Stmt
		for range levels {
			list = []api.Stmt{{Kind: api.SIf, Else: list}}
		}
		return api.Def{Body: list}
	}
	if !parse.Same(deep(300000), deep(300000)) || parse.Same(deep(300000), deep(299999)) {
		t.Error("blocks")
	}
}

func TestSameChangesNothing(t *testing.T) {
	d, e := full(), full()
	parse.Same(d, e)
	if slack := d.Needs[:3][2]; slack.Kind != 0 || slack.Args != nil {
		t.Error(slack)
	}
	same(t, d, full(), true)
	same(t, e, full(), true)
}
