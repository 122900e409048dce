package vm_test

import (
	"math/big"
	"slices"
	"testing"

	"palimpsest/api"
	"palimpsest/page"
)

// A second reading of the chapter: each point is asked of the code by itself, of places in sets, heights by going back from a place to
// all that lead there, steps as numbers without bounds.

// isGood is whether a code is good, by the second reading.
func isGood(c api.Code) bool {
	if !(0 <= c.Params && c.Params <= 8 && c.Params <= c.Locals && c.Locals <= 64 && len(c.Instrs) <= 4096 && len(c.Loops) <= 64) {
		return false
	}
	for _, l := range c.Loops {
		if !(0 <= l.Local && l.Local < c.Locals && 1 <= l.N && l.N <= 64 && 2 <= l.From && l.From <= l.To && l.To < len(c.Instrs)) {
			return false
		}
	}
	return numbersAreGood(c) && loopsAreGood(c) && jumpsAreGood(c) && stackIsGood(c) && stepsOf(c).Cmp(big.NewInt(65536)) <= 0
}

func numbersAreGood(c api.Code) bool {
	ends := map[int]int{}
	for at, i := range c.Instrs {
		ok := true
		switch i.Do {
		case api.IPush, api.ICell, api.ISet, api.IAdd, api.ISub, api.ISwap, api.INeg, api.INot, api.INeed, api.IGive:
		case api.ILocal, api.IKeep:
			ok = 0 <= i.N && i.N < c.Locals
		case api.IDo:
			ok = 1 <= i.N && i.N <= 13
		case api.IJump, api.IZero:
			ok = at < i.N && i.N <= len(c.Instrs)
		case api.ILoop:
			ok = 0 <= i.N && i.N < len(c.Loops) && c.Loops[i.N].To == at
			ends[i.N]++
		default:
			ok = false
		}
		if !ok {
			return false
		}
	}
	for n := range c.Loops {
		if ends[n] != 1 {
			return false
		}
	}
	return true
}

// places is the places from one to another one.
func places(from, to int) map[int]bool {
	all := map[int]bool{}
	for at := from; at <= to; at++ {
		all[at] = true
	}
	return all
}

// common is how many places of a are in b.
func common(a, b map[int]bool) int {
	count := 0
	for at := range a {
		if b[at] {
			count++
		}
	}
	return count
}

func loopsAreGood(c api.Code) bool {
	for n, l := range c.Loops {
		if c.Instrs[l.From-2] != (api.Instr{Do: api.IPush}) || c.Instrs[l.From-1] != (api.Instr{Do: api.IKeep, N: l.Local}) {
			return false
		}
		for at := range places(l.From, l.To) {
			if i := c.Instrs[at]; i.Do == api.IKeep && i.N == l.Local {
				return false
			}
		}
		for _, other := range c.Loops[:n] {
			a, b := places(l.From-2, l.To), places(other.From-2, other.To)
			in, out := common(a, places(other.From, other.To)) == len(a), common(b, places(l.From, l.To)) == len(b)
			if !in && !out && common(a, b) > 0 {
				return false
			}
		}
	}
	return true
}

func jumpsAreGood(c api.Code) bool {
	for at, i := range c.Instrs {
		for _, l := range c.Loops {
			if i.Do != api.IJump && i.Do != api.IZero {
				continue
			}
			in := places(l.From, l.To)
			if in[at] && !in[i.N] || !in[at] && places(l.From-1, l.To)[i.N] {
				return false
			}
		}
	}
	return true
}

// moved is the height behind an instruction, as a row of what it does, each a number popped or pushed; false, if the height isn't allowed.
func moved(do, height int) (int, bool) {
	row := map[int]string{api.IPush: "+", api.ILocal: "+", api.IKeep: "-", api.ICell: "-+", api.ISet: "--", api.IAdd: "--", api.ISub: "--", api.ISwap: "--", api.IDo: "--+",
		api.INeg: "-+", api.INot: "-+", api.IZero: "-", api.INeed: "-", api.IGive: "-"}[do]
	for _, one := range row {
		if height += map[rune]int{'+': 1, '-': -1}[one]; height < 0 || height > 64 {
			return 0, false
		}
	}
	return height, true
}

// leads tells whether a place leads to another one behind it.
func leads(c api.Code, from, to int) bool {
	i := c.Instrs[from]
	return to == from+1 && i.Do != api.IJump || (i.Do == api.IJump || i.Do == api.IZero) && i.N == to
}

func stackIsGood(c api.Code) bool {
	behind := make([]int, len(c.Instrs))
	for at := range len(c.Instrs) + 1 {
		var heights []int
		if at == 0 {
			heights = append(heights, 0)
		}
		for from := range at {
			if leads(c, from, at) {
				heights = append(heights, behind[from])
			}
		}
		if len(heights) == 0 {
			heights = append(heights, 0)
		}
		height, none := heights[0], at == len(c.Instrs) || c.Instrs[at].Do == api.ILoop
		for _, l := range c.Loops {
			none = none || l.From == at
		}
		if slices.Min(heights) != slices.Max(heights) || none && height != 0 {
			return false
		}
		if at < len(c.Instrs) {
			var ok bool
			if behind[at], ok = moved(c.Instrs[at].Do, height); !ok {
				return false
			}
		}
	}
	return true
}

func stepsOf(c api.Code) *big.Int {
	sum := new(big.Int)
	for at := range c.Instrs {
		times := big.NewInt(1)
		for _, l := range c.Loops {
			if places(l.From, l.To)[at] {
				times.Mul(times, big.NewInt(int64(l.N)))
			}
		}
		sum.Add(sum, times)
	}
	return sum
}

// A machine does what api says of each instruction. What a good code never asks of it, such as to pop what isn't there, is a panic.
type machine struct {
	page          api.Page
	code          api.Code
	locals, stack []int
	given, steps  int
	err           api.Errno
}

func (m *machine) pop() int {
	value := m.stack[len(m.stack)-1]
	m.stack = m.stack[:len(m.stack)-1]
	return value
}

func (m *machine) push(value int) {
	if m.stack = append(m.stack, value); len(m.stack) > 64 {
		panic("the stack is too high")
	}
}

// do is what an operator makes of two numbers, by its number.
func do(number, a, b int) int {
	switch {
	case (number == 4 || number == 5) && b == 0:
		return 0
	case number == 4:
		return a / b
	case number == 5:
		return a % b
	}
	yes, other := truth(a != 0), truth(b != 0)
	return []int{0, a + b, a - b, a * b, 0, 0, truth(a < b), truth(a <= b), truth(a > b), truth(a >= b), truth(a == b), truth(a != b), yes * other, yes | other}[number]
}

// change changes a cell, if it is there.
func (m *machine) change(index int, to func(value int) int) {
	if _, ok := page.Get(m.page, index); ok {
		m.page.Cells[index] = to(m.page.Cells[index])
	}
}

// step does the instruction at a place, and answers the next place.
func (m *machine) step(at int) int {
	i := m.code.Instrs[at]
	switch i.Do {
	case api.IPush:
		m.push(i.N)
	case api.ILocal:
		m.push(m.locals[i.N])
	case api.IKeep:
		m.locals[i.N] = m.pop()
	case api.ICell:
		value, _ := page.Get(m.page, m.pop())
		m.push(value)
	case api.ISet, api.IAdd, api.ISub:
		value := m.pop()
		m.change(m.pop(), func(was int) int {
			return map[int]int{api.ISet: value, api.IAdd: was + value, api.ISub: was - value}[i.Do]
		})
	case api.ISwap:
		m.swap(m.pop(), m.pop())
	case api.IDo:
		right := m.pop()
		m.push(do(i.N, m.pop(), right))
	case api.INeg:
		m.push(0 - m.pop())
	case api.INot:
		m.push(1 - truth(m.pop() != 0))
	case api.IJump:
		return i.N
	case api.IZero:
		if m.pop() == 0 {
			return i.N
		}
	case api.ILoop:
		return m.round(m.code.Loops[i.N], at)
	case api.INeed:
		if m.pop() == 0 {
			m.err = api.ErrNeed
		}
	case api.IGive:
		m.given = m.pop()
	default:
		panic("no instruction")
	}
	return at + 1
}

func (m *machine) swap(a, b int) {
	one, ok := page.Get(m.page, a)
	two, there := page.Get(m.page, b)
	if ok && there {
		m.page.Cells[a], m.page.Cells[b] = two, one
	}
}

func (m *machine) round(l api.Loop, at int) int {
	if l.To != at || len(m.stack) > 0 {
		panic("not where the loop ends")
	}
	if m.locals[l.Local]++; m.locals[l.Local] > l.N {
		panic("too many rounds")
	}
	if m.locals[l.Local] < l.N {
		return l.From
	}
	return at + 1
}

// modelled is what a good code comes to, by the second reading.
func modelled(c api.Code, p api.Page, args []int) outcome {
	if len(args) != c.Params {
		return outcome{err: api.ErrForm}
	}
	m := machine{page: p, code: c, locals: make([]int, c.Locals)}
	copy(m.locals, args)
	for at := 0; at < len(c.Instrs); {
		at = m.step(at)
		if m.steps++; m.steps > 65536 {
			panic("it doesn't end")
		}
		if m.err != 0 {
			return outcome{err: m.err, steps: m.steps}
		}
	}
	if len(m.stack) > 0 {
		panic("something is left")
	}
	return outcome{page: m.page, n: m.given, steps: m.steps}
}

// isRead holds all that is answered of a code against the second reading, and tells whether the code is good.
func isRead(t *testing.T, c api.Code, p api.Page, args ...int) bool {
	t.Helper()
	if !isGood(c) {
		bad(t, c)
		return false
	}
	good(t, c)
	got, want := ran(t, c, p, args...), modelled(c, p, args)
	if got != want {
		t.Errorf("%s with %v on %v:\n%v, want\n%v", listed(c), args, p, got, want)
	}
	// P12.3: no more steps than the sixth point counts.
	if sum := stepsOf(c); big.NewInt(int64(got.steps)).Cmp(sum) > 0 {
		t.Errorf("%s with %v: %d steps, and %v at most", listed(c), args, got.steps, sum)
	}
	return true
}

// P12.1 and P12.3: all codes of up to four instructions out of some that tell, without loops
func TestAllShortCodes(t *testing.T) {
	parts := instrs("push 2; local 0; keep 1; cell; add; do 2; jump 1; jump 2; jump 3; jump 4; zero 2; zero 3; zero 4; need; give")
	goods, bads := isAllRead(t, parts, 4, api.Code{Params: 1, Locals: 2})
	if goods < 300 || bads < 40000 {
		t.Error(goods, bads)
	}
}

// P12.1 and P12.3: the same with a loop, and with two of them that stand apart, one in the other, or crossed
func TestAllShortLoops(t *testing.T) {
	parts := instrs("push 0; push 1; local 0; keep 0; keep 1; give; jump 1; jump 3; jump 4; zero 4; zero 5; loop 0")
	sum := 0
	for from := 2; from <= 4; from++ {
		for to := from; to <= 4; to++ {
			goods, _ := isAllRead(t, parts, 5, api.Code{Params: 1, Locals: 2, Loops: []api.Loop{{Local: 0, N: 3, From: from, To: to}}})
			sum += goods
		}
	}
	if sum < 20 {
		t.Error(sum)
	}
	parts, sum = instrs("push 0; push 4; local 0; keep 0; keep 1; give; jump 4; jump 6; loop 0; loop 1"), 0
	for from := 3; from <= 5; from++ {
		for to := from; to <= 6; to++ {
			for end := 2; end <= 6; end++ {
				for local := range 2 {
					goods, _ := isAllRead(t, parts, 7, api.Code{Params: 1, Locals: 2, Instrs: instrs("push 0; keep 0"),
						Loops: []api.Loop{{Local: 0, N: 3, From: 2, To: end}, {Local: local, N: 4, From: from, To: to}}})
					sum += goods
				}
			}
		}
	}
	if sum < 7 {
		t.Error(sum)
	}
}

// isAllRead asks all rows of parts behind a code's instructions, with so many in all at most, in which each place where a loop ends
// has what ends it, or, in what is asked without loops and with one, any other part. It answers how many are good, and how many aren't.
func isAllRead(t *testing.T, parts []api.Instr, most int, c api.Code) (goods, bads int) {
	t.Helper()
	rows := [][]api.Instr{c.Instrs}
	for len(rows) > 0 {
		c.Instrs = rows[len(rows)-1]
		rows = rows[:len(rows)-1]
		if isRead(t, c, counted(), 3) {
			isRead(t, c, counted(), 0)
			goods++
		} else {
			bads++
		}
		own := parts
		for n, l := range c.Loops {
			if l.To == len(c.Instrs) && len(c.Loops) == 2 {
				own = []api.Instr{{Do: api.ILoop, N: n}}
			}
		}
		for _, i := range own {
			if len(c.Instrs) < most {
				rows = append(rows, append(slices.Clone(c.Instrs), i))
			}
		}
	}
	return goods, bads
}
