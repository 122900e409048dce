package vm_test

import (
	"slices"
	"strconv"
	"strings"
	"testing"

	"palimpsest/api"
	"palimpsest/check"
	"palimpsest/code"
	"palimpsest/eval"
	"palimpsest/invert"
	"palimpsest/parse"
)

// draw is numbers in a row that looks like chance.
type draw uint64

// next is a number below n.
func (d *draw) next(n int) int {
	*d = *d*6364136223846793005 + 1442695040888963407
	return int(*d>>33) % n
}

// near is an edge, or a number near the first cells, which drawn operations are about.
func (d *draw) near() int {
	if list := edges(); d.next(2) == 0 {
		return list[d.next(len(list))]
	}
	return d.next(6)
}

func (d *draw) page() api.Page {
	p := api.Page{Lsn: d.near()}
	for i := range p.Cells {
		p.Cells[i] = d.near()
	}
	return p
}

func (d *draw) args(count int) []int {
	args := make([]int, count)
	for i := range args {
		args[i] = d.near()
	}
	return args
}

// A maker draws operations that Check takes, if they don't take too many steps.
type maker struct {
	draw
	numbers []string // the names that are known
	truths  []string
	fresh   int
	left    int      // how many statements there may still be
	signs   []string // what may be done to a cell
	cells   bool     // whether cells are read
}

func (m *maker) pick(list ...string) string {
	return list[m.next(len(list))]
}

// name is a name that is new.
func (m *maker) name() string {
	m.fresh++
	return "n" + strconv.Itoa(m.fresh)
}

func (m *maker) number(deep int) string {
	switch choice := m.next(10); {
	case deep == 0 || choice < 3:
		list := append([]string{"0", "1", "2", "3", "59", "60", "9223372036854775807"}, m.numbers...)
		return m.pick(append(list, m.numbers...)...)
	case choice == 3:
		return "-" + m.number(deep-1)
	case choice < 6 && m.cells:
		return "[" + m.number(deep-1) + "]"
	}
	return "(" + m.number(deep-1) + m.pick("+", "-", "*", "/", "%") + m.number(deep-1) + ")"
}

func (m *maker) truth(deep int) string {
	switch choice := m.next(9); {
	case deep == 0 || choice == 0:
		return m.pick(append([]string{"true", "false"}, append(m.truths, m.truths...)...)...)
	case choice == 1:
		return "!" + m.truth(deep-1)
	case choice < 5:
		return "(" + m.truth(deep-1) + m.pick("&&", "||", "==", "!=") + m.truth(deep-1) + ")"
	}
	return "(" + m.number(deep-1) + m.pick("<", "<=", ">", ">=", "==", "!=") + m.number(deep-1) + ")"
}

func (m *maker) block(deep int) string {
	numbers, truths := len(m.numbers), len(m.truths)
	text := "{" + m.stmts(m.next(5), deep) + "}"
	m.numbers, m.truths = m.numbers[:numbers], m.truths[:truths]
	return text
}

func (m *maker) stmts(count, deep int) string {
	text := ""
	for range count {
		if m.left--; m.left >= 0 {
			text += m.stmt(deep)
		}
	}
	return text
}

func (m *maker) stmt(deep int) string {
	switch choice := m.next(12); {
	case choice == 0:
		text, name := m.truth(2), m.name()
		m.truths = append(m.truths, name)
		return "let " + name + "=" + text + ";"
	case choice < 3:
		text, name := m.number(2), m.name()
		m.numbers = append(m.numbers, name)
		return "let " + name + "=" + text + ";"
	case choice < 5 && deep > 0:
		text := "if " + m.truth(2) + m.block(deep-1)
		if m.next(2) == 0 {
			text += "else" + m.block(deep-1)
		}
		return text
	case choice < 8 && deep > 0:
		name, known := m.name(), len(m.numbers)
		m.numbers = append(m.numbers, name)
		text := "for " + name + " in 0.." + m.pick("0", "1", "2", "3", "5", "8") + m.block(deep-1)
		m.numbers = m.numbers[:known]
		return text
	}
	sign := m.pick(m.signs...)
	if sign == "<>" {
		return "[" + m.number(1) + "]<>[" + m.number(1) + "];"
	}
	return "[" + m.number(1) + "]" + sign + m.number(2) + ";"
}

// operation is a definition that Check takes.
func (m *maker) operation(t *testing.T) api.Def {
	t.Helper()
	for {
		m.numbers, m.truths, m.fresh, m.left = nil, nil, 0, 2+m.next(14)
		for range m.next(9) {
			m.numbers = append(m.numbers, m.name())
		}
		text := "op o(" + strings.Join(m.numbers, ",") + "){"
		for range max(0, m.next(6)-3) {
			text += "need (" + m.truth(2) + "||" + m.truth(1) + ");"
		}
		text += m.stmts(1+m.next(8), 4)
		if m.next(2) == 0 {
			text += "give " + m.number(3) + ";"
		}
		if text += "}"; len(text) > 480 {
			continue
		}
		d := parsed(t, text)
		if _, err := check.Check(d); err == nil {
			return d
		}
	}
}

// parsed is the definition of a text that must have one.
func parsed(t *testing.T, text string) api.Def {
	t.Helper()
	d, err := parse.Parse(text)
	if err != nil {
		t.Fatalf("%q: %v", text, err)
	}
	return d
}

// compiled is the code of a definition that must have one.
func compiled(t *testing.T, d api.Def) api.Code {
	t.Helper()
	c, err := code.Compile(d)
	if err != nil {
		t.Fatalf("%q: %v", parse.Print(d), err)
	}
	return c
}

// isGoodCode tells of a definition whose code isn't good, by either reading.
func isGoodCode(t *testing.T, d api.Def) api.Code {
	t.Helper()
	c := compiled(t, d)
	if !isGood(c) {
		t.Errorf("%q: its code isn't good", parse.Print(d))
	}
	good(t, c)
	return c
}

// isRun holds what a definition's code comes to against what the definition says, and against the second reading.
func isRun(t *testing.T, d api.Def, c api.Code, p api.Page, args ...int) outcome {
	t.Helper()
	got := ran(t, c, p, args...)
	q, n, err := eval.Run(d, p, args...)
	want := outcome{page: q, n: n, steps: got.steps}
	if err != nil {
		want.err = err.(api.Errno)
	}
	if got != want || got != modelled(c, p, args) {
		t.Errorf("%q with %v on %v:\n%v, want\n%v", parse.Print(d), args, p, got, want)
	}
	return got
}

// backward is statements with each of their loops running backwards.
func backward(list []api.Stmt) []api.Stmt {
	var all []api.Stmt
	for _, s := range list {
		if s.Kind == api.SFor {
			s.Kind = api.SBack
		}
		s.Body, s.Else = backward(s.Body), backward(s.Else)
		all = append(all, s)
	}
	return all
}

// ways is a definition, with its loops running backwards, and both turned round, where it can be turned.
func ways(d api.Def) []api.Def {
	back := d
	back.Body = backward(d.Body)
	all := []api.Def{d, back}
	for _, d := range slices.Clone(all) {
		if u, err := invert.Turn(d); err == nil {
			all = append(all, u)
		}
	}
	return all
}

// P12.2: ordinary definitions, with every numbers
func TestRunsOfDefinitions(t *testing.T) {
	for _, text := range []string{
		"op o(i,v){}", "op o(i,v){need i<60;[i]+=v;give [i];}", "op o(i,v){if i<v{[i]=v;}else{if v<0{[0]<>[i];}}give [i]-v;}", "op o(i,v){for a in 0..9{for b in 0..3{[a+b]<>[i+b];}[a]-=v;}}",
		"op o(i,v){let a=i==v;let b=-i*v;if !a&&b>0||v!=1{[i]+=b;for c in 0..0{[c]=1;}}else{for d in 0..2{[d]=d;}}give b/v;}", "op o(i,v){need [i]!=v;need i>=0;[[i]]=i%v;give [[i]];}",
		"op o(i,v){if v<3{for a in 0..5{let b=a*v;if b<4{[b]+=1;}else{[b]-=i;}}}give 1-i-v;}", "op o(i,v){for a in 0..3{}for b in 0..4{[b]+=i;}[i]-=v;}",
		"op o(i,v){if i<=v{let a=i;[a]+=v;}else{let b=v;[b]-=i;}let c=v;[c]+=7;}", "op o(i,v){for a in 0..64{if a<i{if a>v{[a]+=1;}}else{for b in 0..6{[b]+=a;}}}}",
		"op o(i,v){for a in 0..2{if i<v{}else{for b in 0..0{}}}if true{}else{}if i==v{for c in 0..0{}}else{for d in 0..0{}}}",
	} {
		for _, d := range ways(parsed(t, text)) {
			c := isGoodCode(t, d)
			for _, i := range edges() {
				for _, v := range edges() {
					isRun(t, d, c, counted(), i, v)
				}
			}
			for _, args := range [][]int{nil, {1}, {1, 2, 3}} {
				if got := isRun(t, d, c, counted(), args...); got.err != api.ErrForm {
					t.Error(got)
				}
			}
		}
	}
}

// P12.2: the most that a definition may have: of names, of loops within one another, of what an expression leaves on the stack, of steps
func TestGreatDefinitions(t *testing.T) {
	loops, lets := "", ""
	for i := range 16 {
		loops += "for n" + strconv.Itoa(i) + " in 0..2{}"
		lets += "let n" + strconv.Itoa(i) + "=" + strconv.Itoa(i) + ";"
	}
	deep := "[0]+=1;"
	for i := range 8 {
		deep = "for n" + strconv.Itoa(i) + " in 0..2{" + deep + "}"
	}
	for _, text := range []string{
		"op o(){" + loops + "}", "op o(){" + lets + "}", "op o(){" + deep + "}", "op o(a,b,c,d,e,f,g,h){[a]=b;[c]=d;[e]=f;[g]=h;give a-b-c-d-e-f-g-h;}",
		"op o(a){give a" + strings.Repeat("-1", 230) + ";}", "op o(a){give a-(a-(a-(a-(a-(a-(a-(a-(a-(a-(a-7))))))))));}", "op o(a){give [[[[[[[[[[[a]]]]]]]]]]];}", "op o(a){give -----a;}",
		"op o(){for a in 0..64{for b in 0..4{[a]+=b;}}}", "op o(){for a in 0..64{for b in 0..9{}}}", "op o(a){" + strings.Repeat("if a<1{", 8) + "[0]=1;" + strings.Repeat("}else{[a]=2;}", 8) + "}",
	} {
		d := parsed(t, text)
		if _, err := check.Check(d); err != nil {
			t.Fatal(text, err)
		}
		for _, d := range ways(d) {
			c := isGoodCode(t, d)
			for _, n := range []int{0, 1, 3, -1, least} {
				isRun(t, d, c, counted(), slices.Repeat([]int{n}, len(d.Params))...)
			}
		}
	}
}

// P12.2: drawn definitions, such that can be turned round and others
func TestDrawnDefinitions(t *testing.T) {
	m := maker{draw: 12}
	turns, changed, unmet, gave, most := 0, 0, 0, 0, 0
	for i := range 2500 {
		m.signs, m.cells = []string{"=", "+=", "-=", "<>"}, m.next(4) > 0
		if i%2 == 0 {
			m.signs, m.cells = []string{"+=", "-=", "<>"}, false
		}
		defs := ways(m.operation(t))
		if len(defs) > 2 {
			turns++
		}
		for _, d := range defs {
			p := m.page()
			got := isRun(t, d, isGoodCode(t, d), p, m.args(len(d.Params))...)
			most = max(most, got.steps)
			switch {
			case got.err == api.ErrNeed:
				unmet++
			case got.page != p:
				changed++
			}
			if got.n != 0 {
				gave++
			}
		}
	}
	if turns < 1000 || changed < 3000 || unmet < 400 || gave < 700 || most < 1000 {
		t.Error(turns, changed, unmet, gave, most)
	}
}

// P12.1 and P12.3: codes of drawn definitions with slips in them
func TestDrawnSlips(t *testing.T) {
	m := maker{draw: 121, signs: []string{"=", "+=", "<>"}, cells: true}
	count := map[bool]int{}
	for range 3000 {
		d := m.operation(t)
		c := compiled(t, d)
		for range 4 {
			slipped := c
			slipped.Instrs, slipped.Loops = slices.Clone(c.Instrs), slices.Clone(c.Loops)
			for range 1 + m.next(2) {
				m.slip(&slipped)
			}
			count[isRead(t, slipped, m.page(), m.args(max(0, slipped.Params))...)]++
		}
	}
	if count[true] < 2500 || count[false] < 2500 {
		t.Error(count)
	}
}

// slip makes something in a code another thing.
func (m *maker) slip(c *api.Code) {
	small := func() int { return m.next(5) - 2 }
	if len(c.Loops) > 0 && m.next(4) == 0 {
		l := &c.Loops[m.next(len(c.Loops))]
		number := []*int{&l.Local, &l.N, &l.From, &l.To}[m.next(4)]
		*number += small()
		return
	}
	if len(c.Instrs) == 0 {
		return
	}
	at := m.next(len(c.Instrs))
	i := &c.Instrs[at]
	switch m.next(7) {
	case 0:
		i.Do = m.next(18)
	case 1:
		i.N += small()
	case 2:
		i.N = m.next(len(c.Instrs) + 2)
	case 3:
		*i = api.Instr{Do: []int{api.IJump, api.IZero}[m.next(2)], N: at + 1 + m.next(4)}
	case 4:
		other := m.next(len(c.Instrs))
		c.Instrs[at], c.Instrs[other] = c.Instrs[other], c.Instrs[at]
	case 5:
		c.Instrs = append(c.Instrs, *i)
	default:
		number := []*int{&c.Params, &c.Locals, &i.N}[m.next(3)]
		*number += small()
	}
}

// P12.1 and P12.3: drawn codes, each of which is grown so that most of its instructions are good
func TestDrawnCodes(t *testing.T) {
	d := draw(122)
	count := map[bool]int{}
	for range 30000 {
		c := api.Code{Params: d.next(3), Locals: 3 + d.next(3)}
		d.grow(&c, 1+d.next(12), 3)
		for range max(0, d.next(4)-2) {
			c.Instrs[d.next(len(c.Instrs))].N += d.next(3) - 1
		}
		count[isRead(t, c, d.page(), d.args(c.Params)...)]++
	}
	if count[true] < 4000 || count[false] < 4000 {
		t.Error(count)
	}
}

// grow lays so many pieces behind a code's instructions, some of which are loops with pieces in them.
func (d *draw) grow(c *api.Code, pieces, deep int) {
	put := func(do, n int) { c.Instrs = append(c.Instrs, api.Instr{Do: do, N: n}) }
	for range pieces {
		switch d.next(8) {
		case 0, 1:
			put(api.IPush, d.near())
			put([]int{api.IGive, api.IKeep, api.INot, api.ICell, api.INeg, api.INeed}[d.next(6)], 1+d.next(2))
		case 2:
			put(api.ILocal, d.next(c.Locals))
			put([]int{api.IGive, api.IKeep}[d.next(2)], d.next(c.Locals))
		case 3:
			put(api.ILocal, d.next(c.Locals))
			put(api.IPush, d.near())
			if put([]int{api.ISet, api.IAdd, api.ISub, api.ISwap, api.IDo}[d.next(5)], 1+d.next(13)); c.Instrs[len(c.Instrs)-1].Do == api.IDo {
				put(api.IKeep, d.next(c.Locals))
			}
		case 4:
			put(api.IJump, len(c.Instrs)+1+d.next(2)*d.next(4))
		case 5:
			put(api.ILocal, d.next(c.Locals))
			put(api.IZero, len(c.Instrs)+1+2*d.next(2))
		default:
			if deep > 0 {
				d.growLoop(c, deep-1)
			}
		}
	}
	if len(c.Instrs) == 0 {
		put(api.IJump, 1)
	}
}

func (d *draw) growLoop(c *api.Code, deep int) {
	l := api.Loop{Local: d.next(c.Locals), N: 1 + d.next(5)}
	c.Instrs = append(c.Instrs, api.Instr{Do: api.IPush}, api.Instr{Do: api.IKeep, N: l.Local})
	l.From = len(c.Instrs)
	d.grow(c, d.next(4), deep)
	l.To = len(c.Instrs)
	c.Instrs = append(c.Instrs, api.Instr{Do: api.ILoop, N: len(c.Loops)})
	c.Loops = append(c.Loops, l)
}
