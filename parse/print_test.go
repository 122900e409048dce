package parse_test

import (
	"slices"
	"strconv"
	"strings"
	"testing"

	"palimpsest/api"
	"palimpsest/parse"
	"palimpsest/scan"
)

// deepest is how deep a text's deepest block, bracket or unary sign is.
func deepest(t *testing.T, text string) int {
	t.Helper()
	_, deep := depths(tokens(t, text))
	return deep
}

// given is an expression as an operation's text.
func given(expr string) string {
	return "op o(){give " + expr + ";}"
}

// printed holds what Print answers of a text's definition against that definition, and is what it answers.
func printed(t *testing.T, text string) string {
	t.Helper()
	d := parsed(t, text)
	before := placed(d)
	out := parse.Print(d)
	if again := parsed(t, out); plain(again) != plain(d) || !parse.Same(d, again) {
		t.Errorf("%s is printed %s: %s, want %s", short(text), short(out), plain(again), plain(d))
	}
	if parse.Print(parsed(t, out)) != out {
		t.Errorf("%s is printed %s, and that %s", short(text), short(out), short(parse.Print(parsed(t, out))))
	}
	if placed(d) != before {
		t.Errorf("%s: Print changed it to %s", before, placed(d))
	}
	if out != "" && deepest(t, out) > deepest(t, text) {
		t.Errorf("%s is printed %s: deeper", short(text), short(out))
	}
	if len(out) > len(text) {
		t.Errorf("%s is printed %s: longer", short(text), short(out))
	}
	exprs(d, func(e api.Expr) { printedExpr(t, text, e) })
	return out
}

// printedExpr holds what PrintExpr answers of a text's expression.
func printedExpr(t *testing.T, text string, e api.Expr) {
	t.Helper()
	out := parse.PrintExpr(e)
	again := parsed(t, given(out))
	if len(again.Give) != 1 || (teller{}).expr(again.Give[0]) != (teller{}).expr(e) {
		t.Errorf("%s of %s is printed %s", teller{}.expr(e), short(text), short(out))
	}
	if len(out) > len(text) || deepest(t, given(out)) > deepest(t, text) {
		t.Errorf("%s is printed %s: longer or deeper", short(text), short(out))
	}
}

// exprs hands on all expressions of a definition that stand in no other one.
func exprs(d api.Def, each func(e api.Expr)) {
	for _, e := range slices.Concat(d.Needs, d.Give) {
		each(e)
	}
	var within func(list []api.Stmt)
	within = func(list []api.Stmt) {
		for _, s := range list {
			for _, e := range s.Exprs {
				each(e)
			}
			within(s.Body)
			within(s.Else)
		}
	}
	within(d.Body)
}

// P7.2

func TestPrintOrdinary(t *testing.T) {
	for _, text := range ordinary() {
		if printed(t, text) == "" {
			t.Errorf("%s isn't printed", short(text))
		}
	}
	for _, text := range []string{"op o(){if a{}else{}}", "op o(){if a{}else{[0]=1;}}", "op o(){if(a){}}",
		"op o(){need(a);need[1];need!a;need-1;need 1;need a;give(1);}",
		"op o(op1,a,b){let a=(1);let b=-1;}", "op o(){give-1;}", "op o(){give!a;}", "op o(){give[1];}",
		"op o(){for i in 0..0{for k in 0..9223372036854775807{}}}", "op o_(i_){for i_ in 0..1{}for i9 in 0..1{}for I in 0..1{}}",
		"op o(){[((0))]<>[(1)];}", "op o(){[0]+=-1;[0]-=-1;[0]=-1;[0]=!a;[0]=a==!b;}", "op o(){if 1{if 2{if 3{}else{}}else{[0]=1;}}}"} {
		printed(t, text)
	}
}

// Any two operators, beside one another in both ways, with signs ahead of each part.
func TestPrintLevels(t *testing.T) {
	operators := strings.Fields("|| && < <= > >= == != + - * / %")
	signs := []string{"", "-", "!", "--", "!-"}
	for _, one := range operators {
		for _, two := range operators {
			for _, sign := range signs {
				for _, other := range signs {
					printed(t, given(sign+"("+sign+"a"+one+other+"b)"+two+other+"c"))
					printed(t, given(sign+"a"+one+other+"("+other+"b"+two+sign+"c)"))
					printed(t, given(sign+"(("+sign+"a"+one+other+"b)"+two+"c)"))
				}
			}
			for _, three := range operators {
				printed(t, given("(a"+one+"b)"+two+"(c"+three+"d)"))
				printed(t, given("[a"+one+"(b"+two+"(c"+three+"d))]"))
				printed(t, given("((a"+one+"b)"+two+"c)"+three+"d"))
			}
		}
	}
}

// brackets is the places of "(" and of the ")" that goes with it, in an operation's text, behind its parameters.
func brackets(text string) [][2]int {
	var open []int
	var pairs [][2]int
	for i := strings.IndexByte(text, '{'); i < len(text); i++ {
		switch text[i] {
		case '(':
			open = append(open, i)
		case ')':
			pairs = append(pairs, [2]int{open[len(open)-1], i})
			open = open[:len(open)-1]
		}
	}
	return pairs
}

// needed tells of brackets that a text has, and that change nothing: it might be deeper than one without them.
func needed(t *testing.T, text string) {
	t.Helper()
	want := plain(parsed(t, text))
	for _, pair := range brackets(text) {
		bare := text[:pair[0]] + " " + text[pair[0]+1:pair[1]] + " " + text[pair[1]+1:]
		if d, err := parse.Parse(bare); err == nil && plain(d) == want {
			t.Errorf("%s: the brackets at %d aren't needed", short(text), pair[0])
		}
	}
}

func TestPrintDrawn(t *testing.T) {
	m := maker{draw: 10, forms: allForms()}
	count := 0
	for _, words := range m.operations(3000) {
		text := m.text(words, m.next(3) == 0)
		if _, err := parse.Parse(text); err == nil {
			needed(t, printed(t, text))
			count++
		}
	}
	if count < 1200 {
		t.Errorf("%d are printed", count)
	}
}

// Brackets that aren't needed count for depth in the text, but not in what is printed; those that are needed stay within it.
func TestPrintDeep(t *testing.T) {
	for _, signs := range []string{"(((((((((((", "[[[[[[[[[[[", "-----------", "!!!!!!!!!!!", "-(-(-(-(-(-", "[([([([([([", "([-!([-!([-"} {
		printed(t, given(wrap(signs)))
		printed(t, given("2*"+wrap(signs)))
	}
	if text := parse.Print(parsed(t, given(wrap("(((((((((((")))); deepest(t, text) != 1 {
		t.Errorf("%s is too deep", text)
	}
	sum, product := "a", "a"
	for range 11 {
		sum = "b-(" + sum + ")"
		product = "b/(c+" + product + ")"
	}
	for _, text := range []string{given(sum), given(product), given(strings.Repeat("-(1-", 5) + "-a" + strings.Repeat(")", 5)),
		given(strings.Repeat("!(1<", 5) + "!a" + strings.Repeat(")", 5))} {
		if out := printed(t, text); deepest(t, out) < 10 {
			t.Errorf("%s is printed %s", short(text), short(out))
		}
	}
	for _, begin := range []string{"if 1", "if 1{}else", "for i in 0..1", "[0]=1;if 1"} {
		printed(t, blocks(12, begin, "let a=1+2*3;"))
		printed(t, blocks(11, begin, "[0]<>[1];[0]=[1];let b=2*(3-a);if a{}else{}"))
	}
}

// What Parse may answer is never too long to be printed.
func TestPrintLong(t *testing.T) {
	sum := "a+" + strings.Repeat("b-", 230) + "cdef"
	if text := given(sum); len(text) != 480 || len(printed(t, text)) != 480 {
		t.Error(len(text))
	}
	calm := "op o(){" + strings.Repeat("[0]=1;", 78)
	for _, text := range []string{calm + "}", "op o(){" + strings.Repeat("if 1{}", 78) + "}", "op o(){" + strings.Repeat("need 1;",
		67) + "}", "op o(){" + strings.Repeat("let a=b;", 59) + "}",
		"op o(" + strings.TrimSuffix(strings.Repeat("p,", 236), ",") + "){}", "op o(){" + strings.Repeat("for i in 0..1{}", 31) + "}",
		given(strings.Repeat("a<b&&", 92) + "c"), given(strings.Repeat("-1-", 155) + "1")} {
		if len(text) < 460 || len(text) > 480 {
			t.Errorf("%s: %d", short(text), len(text))
		}
		printed(t, text)
	}
}

// Definitions that are equal but for places are printed as one text.
func TestPrintEqual(t *testing.T) {
	for _, same := range [][]string{
		{"op o(){give 1+2*3;}", "op o(){give 1+(2*3);}", "op o ( ) { give ((1)+((2*3))) ; }", "# x\nop o(){\n\tgive 1 + 2 * 3; # y\n}\n"},
		{"op o(a,b){if a{[0]=1;}}", "op o(a,b){if (a) {[(0)] = (1);} else {}}", "op o(a ,b){if a{[0]=1;}else{ }}"},
		{"op o(){[a]<>[-b];for i in 0..3{}}", "op o(){[(a)] <> [-(b)]; for i in 0 .. 3 { } }"},
	} {
		for _, text := range same {
			if a, b := parse.Print(parsed(t, same[0])), parse.Print(parsed(t, text)); a != b {
				t.Errorf("%s is printed %s, want %s", short(text), short(b), short(a))
			}
		}
	}
	d := parsed(t, "op o(){if a{}}")
	e := parsed(t, "op o(){if a{}}")
	e.Params, e.Needs, e.Give, e.Body[0].Body, e.Body[0].Else, e.Body[0].Exprs[0].Args = []string{}, []api.Expr{}, []api.Expr{},
		[]api.Stmt{}, []api.Stmt{}, []api.Expr{}
	if parse.Print(d) != parse.Print(e) {
		t.Errorf("%s, but %s", parse.Print(d), parse.Print(e))
	}
}

func TestPrintExpr(t *testing.T) {
	for _, text := range []string{"1", "a", "true", "[1]", "-1", "!a", "a-(b-c)", "(a-b)-c", "-(a+b)", "(-a)+b", "(a<b)==c", "[a+[b]]",
		"!(a&&b)||c", "9223372036854775807"} {
		out := parse.PrintExpr(parsed(t, given(text)).Give[0])
		if got := plain(parsed(t, given(out))); got != plain(parsed(t, given(text))) {
			t.Errorf("%s is printed %s", text, out)
		}
		if list, err := scan.Tokens(out); err != nil || len(list) < 2 {
			t.Errorf("%s is printed %q", text, out)
		}
	}
}

// Definitions that Parse doesn't answer

// oddExprs is expressions that no text has.
func oddExprs() []api.Expr {
	list := []api.Expr{{}, {Kind: -1}, {Kind: 99}, {Kind: api.ENumber, Num: -5}, {Kind: api.EName}, {Kind: api.EName, Name: "for"},
		{Kind: api.EName, Name: " \x00é"},
		{Kind: api.ENumber, Args: make([]api.Expr, 1)}, {Kind: api.EBinary, Name: "+"}, {Kind: api.EBinary, Name: "+",
			Args: make([]api.Expr, 1)}, {Kind: api.EBinary, Args: make([]api.Expr, 3)},
		{Kind: api.EBinary, Name: "??", Args: []api.Expr{{Kind: api.ENumber}, {Kind: api.ENumber}}}, {Kind: api.EBinary,
			Args: []api.Expr{{Kind: api.ENumber}, {Kind: api.EBinary, Args: make([]api.Expr, 2)}}}}
	for _, kind := range []int{api.ECell, api.ENot, api.ENeg} {
		list = append(list, api.Expr{Kind: kind}, api.Expr{Kind: kind, Args: make([]api.Expr, 1)}, api.Expr{Kind: kind, Args: make([]api.Expr, 2)})
	}
	return append(list, chain(api.ENeg, 1000), chain(api.ECell, 100000), chain(api.EBinary, 1000000), ring(api.ENot), ring(api.EBinary))
}

// chain is an expression that is so many levels deep.
func chain(kind, levels int) api.Expr {
	e := api.Expr{Kind: api.ENumber, Num: 1}
	for range levels {
		e = api.Expr{Kind: kind, Name: "+", Args: []api.Expr{e, {Kind: api.ENumber}}[:1+kind/api.EBinary]}
	}
	return e
}

// ring is an expression that holds itself.
func ring(kind int) api.Expr {
	args := make([]api.Expr, 1+kind/api.EBinary)
	for i := range args {
		args[i] = api.Expr{Kind: kind, Name: "+", Args: args}
	}
	return args[0]
}

func TestPrintOddExprs(t *testing.T) {
	for i, e := range oddExprs() {
		size := len(parse.PrintExpr(e))
		for kind := -1; kind <= api.SBack+1; kind++ {
			for _, list := range [][]api.Expr{{e}, {e, e}, {e, e, e}} {
				size += len(parse.Print(api.Def{Needs: list, Give: list}))
				size += len(parse.Print(api.Def{Body: []api.Stmt{{Kind: kind, Exprs: list, Body: []api.Stmt{{Kind: kind, Exprs: list}}}}}))
			}
		}
		if size > 100000 {
			t.Errorf("%d: %d bytes", i, size)
		}
	}
}

func TestPrintOddStmts(t *testing.T) {
	again := make([]api.Stmt, 2)
	for i := range again {
		again[i] = api.Stmt{Kind: api.SFor, Body: again, Else: again}
	}
	deep := api.Stmt{Kind: api.SFor}
	for range 1000000 {
		deep = api.Stmt{Kind: api.SFor, Body: []api.Stmt{deep}}
	}
	many := make([]api.Stmt, 1000000)
	for i := range many {
		many[i].Kind = api.SFor
	}
	for kind := -1; kind <= api.SBack+1; kind++ {
		for _, list := range [][]api.Stmt{nil, {{}}, again, {deep}, many} {
			parse.Print(api.Def{Body: list})
			parse.Print(api.Def{Body: []api.Stmt{{Kind: kind, Body: list, Else: list}}})
			parse.Print(api.Def{Body: []api.Stmt{{Kind: kind, Exprs: make([]api.Expr, 1), N: -1, Body: list, Else: list}}})
		}
	}
	parse.Print(api.Def{})
	parse.Print(api.Def{Name: "é", Params: []string{"", "in", strings.Repeat("x", 1000)}})
	parse.Print(api.Def{Params: make([]string, 100000)})
	parse.Print(api.Def{Give: make([]api.Expr, 3)})
}

// Rule 5: what is handed in is neither changed nor kept, its spare room included.
func TestPrintKeepsNothing(t *testing.T) {
	args := make([]api.Expr, 1, 4)
	args[0] = api.Expr{Kind: api.EName, Name: "x"}
	e := api.Expr{Kind: api.ENeg, Args: args}
	d := api.Def{Name: "o", Params: []string{"a", "b", "z"}[:2], Give: []api.Expr{e}}
	one, two := parse.PrintExpr(e), parse.Print(d)
	parse.Same(d, d)
	if args[0].Name != "x" || args[:4][1].Kind != 0 || d.Params[:3][2] != "z" {
		t.Error(args[:4], d.Params[:3])
	}
	args[0].Name = "y"
	if parse.PrintExpr(e) == one || parse.Print(d) == two {
		t.Error(one, two, strconv.Quote(parse.Print(d)))
	}
}
