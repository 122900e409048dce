package invert_test

import (
	"reflect"
	"slices"
	"testing"

	"palimpsest/api"
	"palimpsest/eval"
	"palimpsest/invert"
)

// P10.4: what is handed in is neither changed nor kept; answers are new memory

// room is every item of a list, its spare room included.
func room[T any](list []T) []T {
	return list[:cap(list)]
}

// lists goes over all lists of a definition.
func lists(d api.Def, names func([]string), exprs func([]api.Expr), stmts func([]api.Stmt)) {
	names(d.Params)
	listsOfExprs(d.Needs, exprs)
	listsOfStmts(d.Body, exprs, stmts)
	listsOfExprs(d.Give, exprs)
}

func listsOfExprs(list []api.Expr, exprs func([]api.Expr)) {
	for _, e := range list {
		listsOfExprs(e.Args, exprs)
	}
	exprs(list)
}

func listsOfStmts(list []api.Stmt, exprs func([]api.Expr), stmts func([]api.Stmt)) {
	for _, s := range list {
		listsOfExprs(s.Exprs, exprs)
		listsOfStmts(s.Body, exprs, stmts)
		listsOfStmts(s.Else, exprs, stmts)
	}
	stmts(list)
}

// items counts how often each item stands in a definition's lists, by where it stands in memory.
func items(d api.Def) map[any]int {
	counts := map[any]int{}
	lists(d, func(list []string) { count(counts, list) }, func(list []api.Expr) { count(counts, list) }, func(list []api.Stmt) { count(counts, list) })
	return counts
}

func count[T any](counts map[any]int, list []T) {
	all := room(list)
	for i := range all {
		counts[&all[i]]++
	}
}

// scribbled is a definition all of whose memory is written over.
func scribbled(d api.Def) {
	lists(d,
		func(list []string) { scribble(list, "scribbled") },
		func(list []api.Expr) { scribble(list, api.Expr{Kind: 77, Num: -7, Name: "scribbled", At: -9}) },
		func(list []api.Stmt) { scribble(list, api.Stmt{Kind: 78, Name: "scribbled", N: -8, At: -9}) })
}

func scribble[T any](list []T, with T) {
	all := room(list)
	for i := range all {
		all[i] = with
	}
}

// roomy is a definition with its own memory, whose lists have spare room with something in it.
func roomy(d api.Def) api.Def {
	return api.Def{Name: d.Name, Params: spare(d.Params, "spare"), Needs: roomyExprs(d.Needs), Body: roomyStmts(d.Body), Give: roomyExprs(d.Give)}
}

func spare[T any](list []T, with T) []T {
	all := make([]T, 0, len(list)+3)
	all = append(append(all, list...), with, with, with)
	return all[:len(list)]
}

func roomyExprs(list []api.Expr) []api.Expr {
	own := spare(list, api.Expr{Kind: 55, Name: "spare"})
	for i := range own {
		own[i].Args = roomyExprs(own[i].Args)
	}
	return own
}

func roomyStmts(list []api.Stmt) []api.Stmt {
	own := spare(list, api.Stmt{Kind: 56, Name: "spare"})
	for i := range own {
		own[i].Exprs, own[i].Body, own[i].Else = roomyExprs(own[i].Exprs), roomyStmts(own[i].Body), roomyStmts(own[i].Else)
	}
	return own
}

// full is a definition as a value, with what stands in the spare room of its lists.
func full(d api.Def) []any {
	var all []any
	lists(d, func(list []string) { all = append(all, slices.Clone(room(list))) }, func(list []api.Expr) { all = append(all, slices.Clone(room(list))) },
		func(list []api.Stmt) { all = append(all, slices.Clone(room(list))) })
	return append(all, d.Name)
}

// ordinary is texts that can be turned round, with every form in them.
func ordinary() []string {
	return []string{
		"op o(){}", "op o(a,b,c,d,e,f,g,h){}", "op o(){need [0]<1;need true;give [[0]];}", "op o(){let a=1+2*3;let b=a<2;}", "op o(i){[i]+=i+1;[-i]-=--i;}",
		"op f(i) { let a = i * 2; [a] += 1; for k in 0..3 { [k] <> [a]; } }",
		"op o(i,v){need i<60&&!(v==[i]);[i]+=v;let a=i*-v;if a<i||i<3{[a]-=1;let b=a%7;[b+1]<>[a-1];}else{for k in 0..9{[k]<>[k*i];" +
			"for m in 0..2{[m]-=k-m;}}}give [i]-v;}",
		"op o(){if true{}if false{}else{}for a in 0..0{}if true{if true{}else{if true{}}}}",
	}
}

// isOwn tells of an answer that shares memory with what was handed in, or two of whose lists share any.
func isOwn(t *testing.T, d, u api.Def) {
	t.Helper()
	handed := items(d)
	for item, times := range items(u) {
		if times > 1 || handed[item] > 0 {
			t.Errorf("%q: %v stands %d times in the answer, %d times in what was handed in", shown(d), item, times, handed[item])
		}
	}
}

func TestMemory(t *testing.T) {
	var defs []api.Def
	for _, text := range ordinary() {
		d := parsed(t, text)
		defs = append(defs, d, turned(t, d))
	}
	m := maker{draw: 104}
	for range 200 {
		defs = append(defs, m.checked(t))
	}
	for _, d := range defs {
		d, same := roomy(d), roomy(d)
		u := turned(t, d)
		if !reflect.DeepEqual(full(d), full(same)) {
			t.Fatalf("%q: became %q, or its spare room was written to", shown(same), shown(d))
		}
		isOwn(t, d, u)
		want := shown(u)
		// To change the answer changes nothing of what was handed in; nor the other way round.
		scribbled(u)
		if !reflect.DeepEqual(full(d), full(same)) {
			t.Fatalf("%q: became another by what was written to the answer", shown(same))
		}
		u = turned(t, d)
		scribbled(d)
		if got := shown(u); got != want {
			t.Errorf("%q, was %q ahead of what was written to what had been handed in", got, want)
		}
		// And nothing is kept for a later call.
		if got := shown(turned(t, same)); got != want {
			t.Errorf("%q, was %q", got, want)
		}
	}
}

// A refused definition isn't changed, either.
func TestMemoryOfRefused(t *testing.T) {
	for _, text := range []string{"op p(i){need i<3;[i]+=1;let a=i;[i]=1;give i;}", "op c(i){[i]+=1;let a=i;[[i]]+=1;}", "op x(i){[i]+=1;let a=i;[y]+=1;}",
		"op x(i){[i]+=1;let a=i;give true;}"} {
		d, same := roomy(parsed(t, text)), roomy(parsed(t, text))
		refusedDef(t, d)
		if !reflect.DeepEqual(full(d), full(same)) {
			t.Errorf("%q: became %q", text, shown(d))
		}
	}
}

// Lists of one definition may share memory, those of the answer don't.
func TestSharedLists(t *testing.T) {
	number := func(n int) api.Expr { return api.Expr{Kind: api.ENumber, Num: n} }
	parts := []api.Expr{number(1), number(2)}
	sum := api.Expr{Kind: api.EBinary, Name: "+", Args: parts}
	sums := []api.Expr{sum, sum}
	asked := []api.Expr{{Kind: api.EBinary, Name: "<", Args: parts}}
	body := []api.Stmt{{Kind: api.SAdd, Exprs: sums}, {Kind: api.SSub, Exprs: sums}, {Kind: api.SSwap, Exprs: parts}}
	choice := api.Stmt{Kind: api.SIf, Exprs: asked, Body: body, Else: body}
	params := make([]string, 4)
	copy(params, []string{"a", "b", "c", "d"})
	for _, d := range []api.Def{
		{Name: "o", Params: params[:2], Body: body},
		{Name: "o", Params: params[:0], Needs: asked, Body: []api.Stmt{choice, choice}, Give: []api.Expr{sum}},
		{Name: "o", Body: []api.Stmt{{Kind: api.SFor, Name: "a", N: 3, Body: body}, {Kind: api.SBack, Name: "b", N: 3, Body: body},
			{Kind: api.SLet, Name: "c", Exprs: sums[1:]}}},
		// Lists that stand side by side in one array: what is spare to the one is another one's.
		{Name: "o", Body: []api.Stmt{{Kind: api.SLet, Name: "a", Exprs: sums[:1]}, {Kind: api.SIf, Exprs: asked, Body: body[:1], Else: body[1:]},
			{Kind: api.SAdd, Exprs: parts}}},
	} {
		was := shown(d)
		u := isTurned(t, d)
		isOwn(t, d, u)
		if got := shown(d); got != was {
			t.Errorf("%q, was %q", got, was)
		}
		isOwn(t, u, turned(t, u))
		q, _, err := eval.Run(bare(d), counted(), make([]int, len(d.Params))...)
		if err != nil || ran(t, u, q, make([]int, len(d.Params))...) != counted() {
			t.Errorf("%q: %v", was, err)
		}
	}
	if !slices.Equal(params, []string{"a", "b", "c", "d"}) {
		t.Error(params)
	}
}

// Two answers share no memory.
func TestTwoAnswers(t *testing.T) {
	for _, text := range ordinary() {
		d := parsed(t, text)
		one, two := turned(t, d), turned(t, d)
		isOwn(t, one, two)
		want := shown(two)
		scribbled(one)
		if got := shown(two); got != want {
			t.Errorf("%q, was %q", got, want)
		}
	}
}

// Rule 4: nil and empty lists mean the same.
func TestEmptyLists(t *testing.T) {
	for _, text := range ordinary() {
		d := parsed(t, text)
		empty := d
		empty.Params, empty.Needs, empty.Give = append([]string{}, d.Params...), append([]api.Expr{}, d.Needs...), append([]api.Expr{}, d.Give...)
		empty.Body = emptyStmts(d.Body)
		none := d
		none.Body = plain(d.Body)
		want := shown(turned(t, d))
		if got, other := shown(turned(t, empty)), shown(turned(t, none)); got != want || other != want {
			t.Errorf("%q: %q with empty lists, %q with none, want %q", text, got, other, want)
		}
		isTurned(t, empty)
	}
	if got := shown(turned(t, api.Def{})); got != "op (){}" {
		t.Error(got)
	}
}

func emptyStmts(list []api.Stmt) []api.Stmt {
	all := []api.Stmt{}
	for _, s := range list {
		s.Exprs, s.Body, s.Else = emptyExprs(s.Exprs), emptyStmts(s.Body), emptyStmts(s.Else)
		all = append(all, s)
	}
	return all
}

func emptyExprs(list []api.Expr) []api.Expr {
	all := []api.Expr{}
	for _, e := range list {
		e.Args = emptyExprs(e.Args)
		all = append(all, e)
	}
	return all
}

// Rule 1: definitions that no text and no turning makes end, too, those that hold themselves and those that are too much among them.
func TestOddDefinitions(t *testing.T) {
	number, yes := api.Expr{Kind: api.ENumber}, api.Expr{Kind: api.EName, Name: "true"}
	chain, double := number, number
	ring, wide := make([]api.Expr, 2), make([]api.Expr, 1000000)
	for i := range wide {
		ring[i%2] = api.Expr{Kind: api.EBinary, Name: "+", Args: ring}
		wide[i] = api.Expr{Kind: api.ENeg, Args: wide}
		chain = api.Expr{Kind: api.ENeg, Args: []api.Expr{chain}}
	}
	for range 70 {
		double = api.Expr{Kind: api.EBinary, Name: "+", Args: []api.Expr{double, double}}
	}
	again, deep := make([]api.Stmt, 2), api.Stmt{Kind: api.SFor}
	many := make([]api.Stmt, 1000000)
	for i := range many {
		again[i%2] = api.Stmt{Kind: api.SIf, Exprs: []api.Expr{yes}, Body: again, Else: again}
		deep = api.Stmt{Kind: api.SIf, Exprs: []api.Expr{yes}, Body: []api.Stmt{deep}}
		many[i] = api.Stmt{Kind: api.SBack, Name: "a", Body: many}
	}
	for _, e := range []api.Expr{{}, chain, double, ring[0], wide[0], {Kind: api.EBinary, Name: "+", Args: wide}, {Kind: -1}, {Kind: 1 << 62, Args: ring}} {
		refusedBy(t, api.Def{Needs: []api.Expr{e}}, api.Def{Give: []api.Expr{e}}, api.Def{Body: []api.Stmt{{Kind: api.SLet, Name: "a", Exprs: []api.Expr{e}}}},
			api.Def{Body: []api.Stmt{{Kind: api.SAdd, Exprs: []api.Expr{number, e}}}}, api.Def{Body: []api.Stmt{{Kind: api.SIf, Exprs: []api.Expr{e}}}},
			api.Def{Body: []api.Stmt{{Kind: api.SFor, Name: "a", N: 2, Body: []api.Stmt{{Kind: api.SSwap, Exprs: []api.Expr{e, e}}}}}})
	}
	for _, list := range [][]api.Stmt{{{}}, {{Kind: -1}}, {{Kind: 9}}, {{Kind: 1 << 62}}, again, {deep}, many} {
		refusedBy(t, api.Def{Body: list}, api.Def{Body: []api.Stmt{{Kind: api.SFor, Name: "a", Body: list}}},
			api.Def{Body: []api.Stmt{{Kind: api.SIf, Exprs: []api.Expr{yes}, Else: list}}})
	}
	refusedBy(t, api.Def{Params: make([]string, 5000000)}, api.Def{Needs: wide, Body: many, Give: wide}, api.Def{Body: []api.Stmt{{Kind: api.SFor, N: -1 << 63}}})
	// Some are free; they end.
	for kind := -1; kind <= api.SBack+1; kind++ {
		for parts := range 4 {
			for _, n := range []int{0, 3, -1, 1<<63 - 1} {
				s := api.Stmt{Kind: kind, Name: "a", Exprs: make([]api.Expr, parts), N: n}
				s.Body, s.Else = []api.Stmt{{Kind: api.SBack, Name: "b"}}, []api.Stmt{{Kind: api.SFor, Name: "c"}}
				for i := range s.Exprs {
					s.Exprs[i] = []api.Expr{number, yes}[i%2]
				}
				invert.Turn(api.Def{Body: []api.Stmt{s}})
			}
		}
	}
}

// refusedBy tells of definitions that aren't refused. They are told by their numbers: some hold themselves.
func refusedBy(t *testing.T, defs ...api.Def) {
	t.Helper()
	for i, d := range defs {
		if u, err := invert.Turn(d); err != api.ErrCode || !reflect.DeepEqual(u, api.Def{}) {
			t.Errorf("definition %d: %v", i, err)
		}
	}
}
