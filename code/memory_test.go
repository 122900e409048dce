package code_test

import (
	"reflect"
	"slices"
	"testing"

	"palimpsest/api"
	"palimpsest/code"
)

// Rule 5: what is handed in is neither changed nor kept, spare room of lists included; answers are new memory

// room is every item of a list, its spare room included.
func room[T any](list []T) []T {
	return list[:cap(list)]
}

// lists goes over all lists of a definition.
func lists(d api.Def, names func([]string), exprs func([]api.Expr), stmts func([]api.Stmt)) {
	names(d.Params)
	listsOfExprs(d.Needs, exprs)
	listsOfStmts(d.Body, exprs, stmts)
	listsOfExprs(d.Give, exprs)
}

func listsOfExprs(list []api.Expr, exprs func([]api.Expr)) {
	for _, e := range list {
		listsOfExprs(e.Args, exprs)
	}
	exprs(list)
}

func listsOfStmts(list []api.Stmt, exprs func([]api.Expr), stmts func([]api.Stmt)) {
	for _, s := range list {
		listsOfExprs(s.Exprs, exprs)
		listsOfStmts(s.Body, exprs, stmts)
		listsOfStmts(s.Else, exprs, stmts)
	}
	stmts(list)
}

// scribbled is a definition all of whose memory is written over.
func scribbled(d api.Def) {
	lists(d,
		func(list []string) { scribble(list, "scribbled") },
		func(list []api.Expr) { scribble(list, api.Expr{Kind: 77, Num: -7, Name: "scribbled", At: -9}) },
		func(list []api.Stmt) { scribble(list, api.Stmt{Kind: 78, Name: "scribbled", N: -8, At: -9}) })
}

// scribbledCode is a code all of whose memory is written over.
func scribbledCode(c api.Code) {
	scribble(c.Instrs, api.Instr{Do: 77, N: -7})
	scribble(c.Loops, api.Loop{Local: 78, N: -8, From: -9, To: -10})
}

func scribble[T any](list []T, with T) {
	all := room(list)
	for i := range all {
		all[i] = with
	}
}

// roomy is a definition with its own memory, whose lists have spare room with something in it.
func roomy(d api.Def) api.Def {
	return api.Def{Name: d.Name, Params: spare(d.Params, "spare"), Needs: roomyExprs(d.Needs), Body: roomyStmts(d.Body), Give: roomyExprs(d.Give)}
}

func spare[T any](list []T, with T) []T {
	all := make([]T, 0, len(list)+3)
	all = append(append(all, list...), with, with, with)
	return all[:len(list)]
}

func roomyExprs(list []api.Expr) []api.Expr {
	own := spare(list, api.Expr{Kind: 55, Name: "spare"})
	for i := range own {
		own[i].Args = roomyExprs(own[i].Args)
	}
	return own
}

func roomyStmts(list []api.Stmt) []api.Stmt {
	own := spare(list, api.Stmt{Kind: 56, Name: "spare"})
	for i := range own {
		own[i].Exprs, own[i].Body, own[i].Else = roomyExprs(own[i].Exprs), roomyStmts(own[i].Body), roomyStmts(own[i].Else)
	}
	return own
}

// whole is a definition as a value, with what stands in the spare room of its lists.
func whole(d api.Def) []any {
	var all []any
	lists(d, func(list []string) { all = append(all, slices.Clone(room(list))) }, func(list []api.Expr) { all = append(all, slices.Clone(room(list))) },
		func(list []api.Stmt) { all = append(all, slices.Clone(room(list))) })
	return append(all, d.Name)
}

// ordinary is texts with every form in them.
func ordinary() []string {
	return []string{
		"op o(){}", "op o(a,b,c,d,e,f,g,h){}", "op o(){need [0]<1;need true;give [[0]];}", "op o(){let a=1+2*3;let b=a<2;}", "op o(i){[i]+=i+1;[-i]=--[i];}",
		"op f(i) { let a = i * 2; [a] += 1; for k in 0..3 { [k] <> [a]; } }",
		"op o(i,v){need i<60&&!(v==[i]);[i]+=v;let a=i*-v;if a<i||i<3{[a]-=1;let b=a%7;[b+1]<>[a-1];}else{for k in 0..9{[k]=k*i;" +
			"for m in 0..2{[m]<>[k-m];}}}give [i]-v;}",
		"op o(){if true{}if false{}else{}for a in 0..0{}if true{if true{}else{if true{}}}}",
	}
}

func TestMemory(t *testing.T) {
	var defs []api.Def
	for _, text := range ordinary() {
		d := parsed(t, text)
		defs = append(defs, d, back(d))
	}
	m := maker{draw: 113, signs: []string{"+=", "-=", "<>"}}
	for range 200 {
		d := m.operation(t)
		defs = append(defs, d, turned(t, d))
	}
	for _, d := range defs {
		d, same := roomy(d), roomy(d)
		c := compiled(t, d)
		if !reflect.DeepEqual(whole(d), whole(same)) {
			t.Fatalf("%q: became %q, or its spare room was written to", shown(same), shown(d))
		}
		want := listed(c)
		// What becomes of what was handed in changes nothing of the code.
		scribbled(d)
		if got := listed(c); got != want {
			t.Errorf("%s, was %s ahead of what was written to what had been handed in", got, want)
		}
		// Nor do two codes share any memory, nor is any kept for a later call.
		other := compiled(t, same)
		scribbledCode(c)
		if got := listed(other); got != want {
			t.Errorf("%s, was %s ahead of what was written to another code", got, want)
		}
		if got := listed(compiled(t, same)); got != want {
			t.Errorf("%s, was %s", got, want)
		}
	}
}

// A refused definition isn't changed, either.
func TestMemoryOfRefused(t *testing.T) {
	for _, text := range []string{"op p(i){need i<3;[i]+=1;let a=i;[i]=true;give i;}", "op x(i){[i]+=1;let a=i;for k in 0..3{[y]+=1;}}", "op x(i){[i]+=1;let a=i;give true;}"} {
		d, same := roomy(parsed(t, text)), roomy(parsed(t, text))
		refusedDef(t, d)
		if !reflect.DeepEqual(whole(d), whole(same)) {
			t.Errorf("%q: became %q", text, shown(d))
		}
	}
}

// Lists of one definition may share memory, too.
func TestSharedLists(t *testing.T) {
	number := func(n int) api.Expr { return api.Expr{Kind: api.ENumber, Num: n} }
	parts := []api.Expr{number(1), {Kind: api.EName, Name: "a"}}
	sum := api.Expr{Kind: api.EBinary, Name: "+", Args: parts}
	sums := []api.Expr{sum, sum}
	asked := []api.Expr{{Kind: api.EBinary, Name: "<", Args: parts}}
	body := []api.Stmt{{Kind: api.SAdd, Exprs: sums}, {Kind: api.SSet, Exprs: parts}}
	choice := api.Stmt{Kind: api.SIf, Exprs: asked, Body: body[:1], Else: body[1:]}
	d := api.Def{Name: "o", Params: []string{"a"}, Needs: asked, Body: []api.Stmt{choice, choice, {Kind: api.SBack, Name: "b", N: 3, Body: body}}, Give: sums[:1]}
	was := shown(d)
	isMade(t, d)
	isRun(t, d, counted(), 3)
	if got := shown(d); got != was {
		t.Errorf("%q, was %q", got, was)
	}
}

// Text and Same change nothing of a code.
func TestMemoryOfCodes(t *testing.T) {
	a, b := full(), full()
	scribble(a.Instrs[len(a.Instrs):], api.Instr{Do: 5, N: 6})
	scribble(a.Loops[len(a.Loops):], api.Loop{Local: 7, N: 8, From: 9, To: 10})
	instrs, loops := slices.Clone(room(a.Instrs)), slices.Clone(room(a.Loops))
	text := code.Text(a)
	same(t, a, b, true)
	if !slices.Equal(room(a.Instrs), instrs) || !slices.Equal(room(a.Loops), loops) || a.Params != b.Params || a.Locals != b.Locals {
		t.Error(a)
	}
	scribbledCode(a)
	if text != code.Text(b) {
		t.Error(text)
	}
	same(t, a, b, false)
}

// Rule 8: answers hang on nothing else.
func TestSameAnswers(t *testing.T) {
	for _, text := range ordinary() {
		d := parsed(t, text)
		want := listed(compiled(t, d))
		for _, other := range ordinary() {
			compiled(t, parsed(t, other))
			refused(t, "op o(){[x]=1;}")
			makes(t, d, want)
		}
	}
}

// Rule 4: nil and empty lists mean the same.
func TestEmptyLists(t *testing.T) {
	for _, text := range ordinary() {
		for _, d := range []api.Def{parsed(t, text), back(parsed(t, text))} {
			empty := d
			empty.Params, empty.Needs, empty.Give = append([]string{}, d.Params...), emptyExprs(d.Needs), emptyExprs(d.Give)
			empty.Body = emptyStmts(d.Body)
			makes(t, empty, listed(compiled(t, d)))
			none := func(name string) string { return name }
			makes(t, renamed(empty, none, func(at int) int { return at }), listed(compiled(t, d)))
		}
	}
}

func emptyStmts(list []api.Stmt) []api.Stmt {
	all := []api.Stmt{}
	for _, s := range list {
		s.Exprs, s.Body, s.Else = emptyExprs(s.Exprs), emptyStmts(s.Body), emptyStmts(s.Else)
		all = append(all, s)
	}
	return all
}

func emptyExprs(list []api.Expr) []api.Expr {
	all := []api.Expr{}
	for _, e := range list {
		e.Args = emptyExprs(e.Args)
		all = append(all, e)
	}
	return all
}

// Rule 1: definitions that no text and no turning makes end, too, those that hold themselves and those that are too much among them.
func TestOddDefinitions(t *testing.T) {
	number, yes := api.Expr{Kind: api.ENumber}, api.Expr{Kind: api.EName, Name: "true"}
	chain, double := number, number
	ring, wide := make([]api.Expr, 2), make([]api.Expr, 1000000)
	for i := range wide {
		ring[i%2] = api.Expr{Kind: api.EBinary, Name: "+", Args: ring}
		wide[i] = api.Expr{Kind: api.ENeg, Args: wide}
		chain = api.Expr{Kind: api.ENeg, Args: []api.Expr{chain}}
	}
	for range 70 {
		double = api.Expr{Kind: api.EBinary, Name: "+", Args: []api.Expr{double, double}}
	}
	again, deep := make([]api.Stmt, 2), api.Stmt{Kind: api.SFor}
	many := make([]api.Stmt, 1000000)
	for i := range many {
		again[i%2] = api.Stmt{Kind: api.SIf, Exprs: []api.Expr{yes}, Body: again, Else: again}
		deep = api.Stmt{Kind: api.SIf, Exprs: []api.Expr{yes}, Body: []api.Stmt{deep}}
		many[i] = api.Stmt{Kind: api.SBack, Name: "a", Body: many}
	}
	for _, e := range []api.Expr{{}, chain, double, ring[0], wide[0], {Kind: api.EBinary, Name: "+", Args: wide}, {Kind: -1}, {Kind: 1 << 62, Args: ring}} {
		refusedBy(t, api.Def{Needs: []api.Expr{e}}, api.Def{Give: []api.Expr{e}}, api.Def{Body: []api.Stmt{{Kind: api.SLet, Name: "a", Exprs: []api.Expr{e}}}},
			api.Def{Body: []api.Stmt{{Kind: api.SSet, Exprs: []api.Expr{number, e}}}}, api.Def{Body: []api.Stmt{{Kind: api.SIf, Exprs: []api.Expr{e}}}},
			api.Def{Body: []api.Stmt{{Kind: api.SFor, Name: "a", N: 2, Body: []api.Stmt{{Kind: api.SSwap, Exprs: []api.Expr{e, e}}}}}})
	}
	for _, list := range [][]api.Stmt{{{}}, {{Kind: -1}}, {{Kind: 9}}, {{Kind: 1 << 62}}, again, {deep}, many} {
		refusedBy(t, api.Def{Body: list}, api.Def{Body: []api.Stmt{{Kind: api.SFor, Name: "a", Body: list}}},
			api.Def{Body: []api.Stmt{{Kind: api.SIf, Exprs: []api.Expr{yes}, Else: list}}})
	}
	refusedBy(t, api.Def{Params: make([]string, 5000000)}, api.Def{Needs: wide, Body: many, Give: wide}, api.Def{Body: []api.Stmt{{Kind: api.SFor, N: -1 << 63}}})
}

// refusedBy tells of definitions that aren't refused. They are told by their numbers: some hold themselves.
func refusedBy(t *testing.T, defs ...api.Def) {
	t.Helper()
	for i, d := range defs {
		if c, err := code.Compile(d); err != api.ErrCode || !reflect.DeepEqual(c, api.Code{}) {
			t.Errorf("definition %d: %v", i, err)
		}
	}
}

// What becomes of some of them is free; they end.
func TestFreeDefinitions(t *testing.T) {
	number, yes := api.Expr{Kind: api.ENumber, Num: least}, api.Expr{Kind: api.EName, Name: "true"}
	for kind := -1; kind <= api.SBack+1; kind++ {
		for parts := range 4 {
			for _, n := range []int{0, 3, -1, greatest} {
				s := api.Stmt{Kind: kind, Name: "a", Exprs: make([]api.Expr, parts), N: n}
				s.Body, s.Else = []api.Stmt{{Kind: api.SBack, Name: "a"}}, []api.Stmt{{Kind: api.SFor, Name: "c", Body: []api.Stmt{{Kind: api.SLet, Exprs: []api.Expr{yes}}}}}
				for i := range s.Exprs {
					s.Exprs[i] = []api.Expr{number, yes, {Kind: api.EName, Name: "x"}}[i%3]
				}
				for _, list := range [][]api.Stmt{{s}, {{Kind: api.SIf, Exprs: []api.Expr{yes}, Else: []api.Stmt{s}}}} {
					if c, err := code.Compile(api.Def{Params: []string{"", "true"}, Body: list}); err == nil {
						code.Text(c)
					}
				}
			}
		}
	}
}
