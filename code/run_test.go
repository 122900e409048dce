package code_test

import (
	"slices"
	"testing"

	"palimpsest/api"
	"palimpsest/eval"
	"palimpsest/page"
)

// edges is numbers near 0, near the cells' ends, and at the ends of 64 bits.
func edges() []int {
	return []int{0, 1, -1, 2, -2, 3, -3, 7, 10, 57, 58, 59, 60, 61, -59, -60, 1 << 31, 1 << 32, 1 << 62, -1 << 62, greatest, greatest - 1, least, least + 1}
}

// counted is a page whose cells are all different, and none 0: cell i has 100 + i.
func counted() api.Page {
	p := api.Page{Lsn: 4}
	for i := range p.Cells {
		p.Cells[i] = 100 + i
	}
	return p
}

// A machine does what api says of each instruction. What it isn't told to do, such as to pop what isn't there, is a panic.
type machine struct {
	page          api.Page
	code          api.Code
	locals, stack []int
	given, steps  int
	err           api.Errno
}

func (m *machine) pop() int {
	value := m.stack[len(m.stack)-1]
	m.stack = m.stack[:len(m.stack)-1]
	return value
}

func (m *machine) push(value int) {
	m.stack = append(m.stack, value)
}

func truth(yes bool) int {
	if yes {
		return 1
	}
	return 0
}

// do is what an operator makes of two numbers, by its number.
func do(number, a, b int) int {
	switch {
	case (number == 4 || number == 5) && b == 0:
		return 0
	case number == 4:
		return a / b
	case number == 5:
		return a % b
	}
	return []int{0, a + b, a - b, a * b, 0, 0, truth(a < b), truth(a <= b), truth(a > b), truth(a >= b), truth(a == b), truth(a != b), a & b, a | b}[number]
}

// change changes a cell, if it is there.
func (m *machine) change(index int, to func(value int) int) {
	if _, ok := page.Get(m.page, index); ok {
		m.page.Cells[index] = to(m.page.Cells[index])
	}
}

// step does the instruction at a place, and answers the next place.
func (m *machine) step(at int) int {
	i := m.code.Instrs[at]
	switch i.Do {
	case api.IPush:
		m.push(i.N)
	case api.ILocal:
		m.push(m.locals[i.N])
	case api.IKeep:
		m.locals[i.N] = m.pop()
	case api.ICell:
		value, _ := page.Get(m.page, m.pop())
		m.push(value)
	case api.ISet, api.IAdd, api.ISub:
		value := m.pop()
		m.change(m.pop(), func(was int) int {
			return map[int]int{api.ISet: value, api.IAdd: was + value, api.ISub: was - value}[i.Do]
		})
	case api.ISwap:
		m.swap(m.pop(), m.pop())
	case api.IDo:
		right := m.pop()
		m.push(do(i.N, m.pop(), right))
	case api.INeg:
		m.push(-m.pop())
	case api.INot:
		m.push(1 - m.pop())
	case api.IJump:
		return i.N
	case api.IZero:
		if m.pop() == 0 {
			return i.N
		}
	case api.ILoop:
		return m.round(m.code.Loops[i.N], at)
	case api.INeed:
		if m.pop() == 0 {
			m.err = api.ErrNeed
		}
	case api.IGive:
		m.given = m.pop()
	default:
		panic("no instruction")
	}
	return at + 1
}

func (m *machine) swap(a, b int) {
	one, ok := page.Get(m.page, a)
	two, there := page.Get(m.page, b)
	if ok && there {
		m.page.Cells[a], m.page.Cells[b] = two, one
	}
}

func (m *machine) round(l api.Loop, at int) int {
	if l.To != at || len(m.stack) > 0 {
		panic("not where the loop ends")
	}
	if m.locals[l.Local]++; m.locals[l.Local] < l.N {
		return l.From
	}
	return at + 1
}

// outcome is what a run answers, as a value: an error of number 0 is none.
type outcome struct {
	page  api.Page
	n     int
	err   api.Errno
	steps int
}

// ran runs a code.
func ran(c api.Code, p api.Page, args []int) outcome {
	m := machine{page: p, code: c, locals: make([]int, c.Locals)}
	copy(m.locals, args)
	for at := 0; at < len(c.Instrs); {
		at = m.step(at)
		if m.err != 0 {
			return outcome{err: m.err, steps: m.steps}
		}
		if m.steps++; m.steps > 65536 {
			panic("it doesn't end")
		}
	}
	if len(m.stack) > 0 {
		panic("something is left")
	}
	return outcome{page: m.page, n: m.given, steps: m.steps}
}

// isRun holds what a definition's code comes to against what the definition says.
func isRun(t *testing.T, d api.Def, p api.Page, args ...int) outcome {
	t.Helper()
	got := ran(compiled(t, d), p, args)
	q, n, err := eval.Run(d, p, args...)
	want := outcome{page: q, n: n, steps: got.steps}
	if err != nil {
		want.err = err.(api.Errno)
	}
	if got != want {
		t.Errorf("%q with %v on %v:\n%v, want\n%v", shown(d), args, p, got, want)
	}
	return got
}

// P11.1: codes do what their definitions say, on ordinary pages, with every numbers

func TestRuns(t *testing.T) {
	for _, text := range []string{
		"op o(i,v){need i<60;[i]+=v;give [i];}", "op o(i,v){if i<v{[i]=v;}else{if v<0{[0]<>[i];}}give [i]-v;}", "op o(i,v){for a in 0..9{for b in 0..3{[a+b]<>[i+b];}[a]-=v;}}",
		"op o(i,v){let a=i==v;let b=-i*v;if !a&&b>0||v!=1{[i]+=b;for c in 0..0{[c]=1;}}else{for d in 0..2{[d]=d;}}give b/v;}", "op o(i,v){need [i]!=v;need i>=0;[[i]]=i%v;give [[i]];}",
		"op o(i,v){if v<3{for a in 0..5{let b=a*v;if b<4{[b]+=1;}else{[b]-=i;}}}give 1-i-v;}", "op o(i,v){for a in 0..3{}for b in 0..4{[b]+=i;}[i]-=v;}",
		"op o(i,v){if i<=v{let a=i;[a]+=v;}else{let b=v;[b]-=i;}let c=v;[c]+=7;}",
	} {
		d := parsed(t, text)
		for _, i := range edges() {
			for _, v := range edges() {
				isRun(t, d, counted(), i, v)
				isRun(t, back(d), counted(), i, v)
			}
		}
	}
}

// A turned operation's code undoes what the operation's code did.
func TestUndoes(t *testing.T) {
	d := parsed(t, "op o(i,v){need i<60;[i]+=v;let a=v*2;for k in 0..9{[k]<>[a+k];[k]-=i;for m in 0..2{[m]<>[k];}}if a<i{[a]-=1;}else{[i]+=9;[a]<>[i];}give v;}")
	changed := 0
	for _, i := range edges() {
		for _, v := range edges() {
			there := isRun(t, d, counted(), i, v)
			if there.err != 0 {
				continue
			}
			if there.page != counted() {
				changed++
			}
			if got := isRun(t, turned(t, d), there.page, i, v); got.page != counted() {
				t.Errorf("with %d, %d: %v", i, v, got.page)
			}
		}
	}
	if changed < 200 {
		t.Error(changed)
	}
}

// Of the most steps that there may be no code is too long.
func TestLongestCodes(t *testing.T) {
	text := "op o(){"
	for len(text) < 470 {
		text += "[0]=1;"
	}
	c := isMade(t, parsed(t, text+"}"))
	if len(c.Instrs) != 3*78 || slices.ContainsFunc(c.Instrs, func(i api.Instr) bool { return i.Do == api.ILocal }) {
		t.Error(len(c.Instrs))
	}
	sum := "op o(a){give a"
	for len(sum) < 477 {
		sum += "-1"
	}
	c = isMade(t, parsed(t, sum+";}"))
	if len(c.Instrs) != 1+2*232+1 {
		t.Error(len(c.Instrs))
	}
	isRun(t, parsed(t, sum+";}"), counted(), 7)
	// The deepest.
	op(t, "op o(a){give [[[[[[[[[[[a]]]]]]]]]]];}", "1 1: local 0; cell; cell; cell; cell; cell; cell; cell; cell; cell; cell; cell; give")
	isRun(t, parsed(t, "op o(a){give ((((((((((-a))))))))));}"), counted(), 7)
}
