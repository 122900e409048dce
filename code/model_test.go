package code_test

import (
	"regexp"
	"slices"
	"strings"
	"testing"

	"palimpsest/api"
	"palimpsest/code"
	"palimpsest/eval"
	"palimpsest/invert"
	"palimpsest/parse"
	"palimpsest/scan"
)

// A second reading of the chapter: a block is lines that are laid by themselves, whose jumps are told by how far they go; names, and
// what is folded, are looked for in texts; loops are numbered when all lines are laid.
type line struct {
	do, n  int
	ahead  int      // how many lines further a jump goes
	behind int      // how many lines back a loop goes
	loop   api.Loop // of a loop, without its places
}

type model struct {
	locals, counters map[string]int
}

// modelOf has the locals of a definition's names, in the order in which a text declares them, then the counters. The text is the
// operation's: the definition itself, or the one of which it was made.
func modelOf(text, d api.Def) (model, int) {
	m := model{locals: map[string]int{}, counters: map[string]int{}}
	names := slices.Clone(d.Params)
	for _, found := range regexp.MustCompile(`\b(let|for|back) (\w+)`).FindAllStringSubmatch(shownStmts(text.Body), -1) {
		names = append(names, found[2])
	}
	for i, name := range names {
		m.locals[name], m.counters[name] = i, i
	}
	count, shown := len(names), shownStmts(d.Body)
	for _, name := range names {
		if strings.Contains(shown, "back "+name+" ") {
			m.counters[name] = count
			count++
		}
	}
	return m, count
}

// isFixed tells whether a text has neither a name nor a cell in it.
func isFixed(text string) bool {
	tokens, err := scan.Tokens(text)
	return err == nil && !slices.ContainsFunc(tokens, func(t api.Token) bool {
		return t.Text == "[" || t.Kind == api.TName && t.Text != "true" && t.Text != "false"
	})
}

func (m model) expr(e api.Expr) []line {
	if isFixed(parse.PrintExpr(e)) {
		value, err := eval.Value(e, api.Page{}, map[string]int{})
		if err != nil {
			panic(err)
		}
		return []line{{do: api.IPush, n: value}}
	}
	signs := strings.Fields("+ - * / % < <= > >= == != && ||")
	last := map[int]line{api.EName: {do: api.ILocal, n: m.locals[e.Name]}, api.ECell: {do: api.ICell}, api.ENot: {do: api.INot}, api.ENeg: {do: api.INeg},
		api.EBinary: {do: api.IDo, n: 1 + slices.Index(signs, e.Name)}}
	return append(m.exprs(e.Args), last[e.Kind])
}

func (m model) exprs(list []api.Expr) []line {
	var all []line
	for _, e := range list {
		all = append(all, m.expr(e)...)
	}
	return all
}

func (m model) block(list []api.Stmt) []line {
	var all []line
	for _, s := range list {
		all = append(all, m.stmt(s)...)
	}
	return all
}

func (m model) stmt(s api.Stmt) []line {
	lines, body := m.exprs(s.Exprs), m.block(s.Body)
	switch s.Kind {
	case api.SLet:
		return append(lines, line{do: api.IKeep, n: m.locals[s.Name]})
	case api.SIf:
		other := m.block(s.Else)
		if len(s.Else) > 0 {
			body = append(body, line{do: api.IJump, ahead: len(other) + 1})
		}
		return slices.Concat(lines, []line{{do: api.IZero, ahead: len(body) + 1}}, body, other)
	case api.SFor, api.SBack:
		if s.N > 0 {
			return m.rounds(s, body)
		}
		return nil
	}
	return append(lines, line{do: map[int]int{api.SSet: api.ISet, api.SAdd: api.IAdd, api.SSub: api.ISub, api.SSwap: api.ISwap}[s.Kind]})
}

func (m model) rounds(s api.Stmt, body []line) []line {
	counter := m.counters[s.Name]
	var from []line
	if s.Kind == api.SBack {
		from = []line{{do: api.IPush, n: s.N - 1}, {do: api.ILocal, n: counter}, {do: api.IDo, n: 2}, {do: api.IKeep, n: m.locals[s.Name]}}
	}
	body = append(from, body...)
	ahead := []line{{do: api.IPush}, {do: api.IKeep, n: counter}}
	return slices.Concat(ahead, body, []line{{do: api.ILoop, behind: len(body), loop: api.Loop{Local: counter, N: s.N}}})
}

// modelled is the code, by the second reading, of a definition that was made of a text.
func modelled(text, d api.Def) api.Code {
	m, locals := modelOf(text, d)
	var all []line
	for _, e := range d.Needs {
		all = append(append(all, m.expr(e)...), line{do: api.INeed})
	}
	all = append(all, m.block(d.Body)...)
	for _, e := range d.Give {
		all = append(append(all, m.expr(e)...), line{do: api.IGive})
	}
	c := api.Code{Params: len(d.Params), Locals: locals}
	for at, l := range all {
		switch l.do {
		case api.IJump, api.IZero:
			l.n = at + l.ahead
		case api.ILoop:
			l.n = len(c.Loops)
			c.Loops = append(c.Loops, api.Loop{Local: l.loop.Local, N: l.loop.N, From: at - l.behind, To: at})
		}
		c.Instrs = append(c.Instrs, api.Instr{Do: l.do, N: l.n})
	}
	return c
}

// isMade holds what Compile answers of a definition against the second reading.
func isMade(t *testing.T, d api.Def) api.Code {
	t.Helper()
	return isMadeOf(t, d, d)
}

// isMadeOf asks the same of a definition that was made of a text, by turning it or by having loops of it run the other way.
func isMadeOf(t *testing.T, text, d api.Def) api.Code {
	t.Helper()
	c, want := compiled(t, d), modelled(text, d)
	if listed(c) != listed(want) || !slices.Equal(c.Instrs, want.Instrs) || !code.Same(c, want) {
		t.Errorf("%q:\n%s, want\n%s", shown(d), listed(c), listed(want))
	}
	return c
}

// isMadeToo asks the same of a text's definition, of it turned and turned again, if it can be turned, and of it with some loops
// running the other way, turned or not.
func isMadeToo(t *testing.T, text api.Def, some func() bool) []api.Def {
	t.Helper()
	defs := []api.Def{text, back(text), withBody(text, backward(text.Body, some))}
	for _, d := range slices.Clone(defs) {
		if u, err := invert.Turn(d); err == nil {
			defs = append(defs, u)
		}
	}
	if len(defs) > 3 {
		defs = append(defs, turned(t, defs[3]))
	}
	for _, d := range defs {
		isMadeOf(t, text, d)
	}
	return defs
}

func withBody(d api.Def, list []api.Stmt) api.Def {
	d.Body = list
	return d
}

// numbered is parts of a text, each with names of its own: its place stands for the sign @.
func numbered(parts ...string) string {
	text := ""
	for i, part := range parts {
		text += strings.ReplaceAll(part, "@", string(rune('0'+i)))
	}
	return text
}

// P11.1: all rows of up to three statements out of some that tell, in the operation's own block and in blocks of each kind
func TestAllShortOperations(t *testing.T) {
	parts := []string{"let a@=i;", "[i]+=@;", "[@]=[i];", "[i]<>[@+1];", "if i<@{let b@=i;}", "if @<1{[i]-=1;}else{}", "if true{}else{let c@=[@];}", "if i<1{for d@ in 0..2{}}else{for e@ in 0..0{}}",
		"for f@ in 0..0{let g@=f@;}", "for h@ in 0..3{[h@]-=1;}", "for j@ in 0..2{let k@=j@;for l@ in 0..3{[l@]+=k@;}}"}
	rows := [][]string{nil}
	for from := 0; len(rows[from]) < 3; from++ {
		for _, part := range parts {
			rows = append(rows, append(slices.Clone(rows[from]), part))
		}
	}
	turn := 0
	some := func() bool { turn++; return turn%3 == 0 }
	for _, row := range rows {
		for _, around := range []string{"*", "if i<3{*}", "if i<3{}else{*}", "if i<3{[0]=1;}else{*}", "for z in 0..3{*}", "for z in 0..0{*}", "[7]<>[i];if i<3{for z in 0..2{*}[8]<>[i];}let y=i;"} {
			d := parsed(t, "op o(i){"+strings.Replace(around, "*", numbered(row...), 1)+"}")
			if around != "*" || len(row) < 3 {
				isMadeToo(t, d, some)
				continue
			}
			for _, d := range isMadeToo(t, d, some) {
				for _, i := range []int{0, 2, 3} {
					isRun(t, d, counted(), i)
				}
			}
		}
	}
	if len(rows) < 1000 {
		t.Error(len(rows))
	}
}

// P11.1 and P11.2: all expressions of up to three operators out of some that tell
func TestAllShortExpressions(t *testing.T) {
	small := []string{"2", "i", "[1]"}
	grown := func(list []string, signs ...string) []string {
		all := slices.Clone(list)
		for _, a := range list {
			all = append(all, "-"+a, "["+a+"]")
			for _, b := range list {
				for _, sign := range signs {
					all = append(all, "("+a+sign+b+")")
				}
			}
		}
		return all
	}
	numbers := grown(small, "-", "/")
	truths := []string{"true", "b", "!b"}
	for _, a := range numbers {
		for _, b := range small {
			truths = append(truths, "("+a+"<"+b+")")
		}
	}
	count := 0
	for _, text := range grown(numbers, "+", "%") {
		isMade(t, parsed(t, "op o(i){[i]="+text+";give "+text+";}"))
		count++
	}
	for i, a := range truths {
		isMade(t, parsed(t, "op o(i){let b=i<1;if "+a+"{}}"))
		for k, b := range truths {
			sign := []string{"&&", "||", "==", "!="}[(i+k)%4]
			d := parsed(t, "op o(i){let b=i<1;if !("+a+sign+b+"){[0]+=1;}}")
			isMade(t, d)
			isRun(t, d, counted(), i%4)
			count++
		}
	}
	if count < 8000 {
		t.Error(count)
	}
}
