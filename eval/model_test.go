package eval_test

import (
	"math/big"
	"slices"
	"strconv"
	"strings"
	"testing"

	"palimpsest/api"
	"palimpsest/check"
	"palimpsest/parse"
)

// A second reading of the chapter: numbers are without bounds and are brought into 64 bits behind each sum; truths are bools; cells
// stand in a map that has just those that there are; a block has its names in a scope of its own.
type model struct {
	cells  map[string]*big.Int
	scopes []map[string]any // the innermost one last
}

// wrapped is a number brought into 64 bits.
func wrapped(n *big.Int) *big.Int {
	half := new(big.Int).Lsh(big.NewInt(1), 63)
	n = new(big.Int).Add(n, half)
	n.Mod(n, new(big.Int).Lsh(half, 1))
	return n.Sub(n, half)
}

func (m *model) truth(e api.Expr) bool       { return m.expr(e).(bool) }
func (m *model) number(e api.Expr) *big.Int  { return m.expr(e).(*big.Int) }
func (m *model) index(e api.Expr) string     { return m.number(e).String() }
func (m *model) declare(name string, to any) { m.scopes[len(m.scopes)-1][name] = to }

func (m *model) expr(e api.Expr) any {
	switch e.Kind {
	case api.ENumber:
		return big.NewInt(int64(e.Num))
	case api.EName:
		return m.name(e.Name)
	case api.ECell:
		if value, ok := m.cells[m.index(e.Args[0])]; ok {
			return value
		}
		return new(big.Int)
	case api.ENot:
		return !m.truth(e.Args[0])
	case api.ENeg:
		return wrapped(new(big.Int).Neg(m.number(e.Args[0])))
	}
	if left, ok := m.expr(e.Args[0]).(bool); ok {
		right := m.truth(e.Args[1])
		return map[string]bool{"&&": left && right, "||": left || right, "==": left == right, "!=": left != right}[e.Name]
	}
	return binary(e.Name, m.number(e.Args[0]), m.number(e.Args[1]))
}

func (m *model) name(name string) any {
	if name == "true" || name == "false" {
		return name == "true"
	}
	for _, scope := range slices.Backward(m.scopes) {
		if value, ok := scope[name]; ok {
			return value
		}
	}
	panic("no " + name)
}

func binary(sign string, a, b *big.Int) any {
	n, order := new(big.Int), a.Cmp(b)
	switch sign {
	case "+":
		return wrapped(n.Add(a, b))
	case "-":
		return wrapped(n.Sub(a, b))
	case "*":
		return wrapped(n.Mul(a, b))
	case "/", "%":
		if b.Sign() == 0 {
			return n
		}
		n, rest := n.QuoRem(a, b, new(big.Int))
		if sign == "%" {
			return rest
		}
		return wrapped(n)
	}
	return map[string]bool{"<": order < 0, "<=": order <= 0, ">": order > 0, ">=": order >= 0, "==": order == 0, "!=": order != 0}[sign]
}

// block runs a block with its own names, and one of them given if it is a loop's.
func (m *model) block(list []api.Stmt, names map[string]any) {
	m.scopes = append(m.scopes, names)
	for _, s := range list {
		m.stmt(s)
	}
	m.scopes = m.scopes[:len(m.scopes)-1]
}

func (m *model) stmt(s api.Stmt) {
	switch s.Kind {
	case api.SLet:
		m.declare(s.Name, m.expr(s.Exprs[0]))
		return
	case api.SIf:
		list := s.Else
		if m.truth(s.Exprs[0]) {
			list = s.Body
		}
		m.block(list, map[string]any{})
		return
	case api.SFor, api.SBack:
		var rounds []int
		for i := range s.N {
			rounds = append(rounds, i)
		}
		if s.Kind == api.SBack {
			slices.Reverse(rounds)
		}
		for _, i := range rounds {
			m.block(s.Body, map[string]any{s.Name: big.NewInt(int64(i))})
		}
		return
	}
	m.change(s)
}

func (m *model) change(s api.Stmt) {
	at, second := m.index(s.Exprs[0]), m.number(s.Exprs[1])
	cell, ok := m.cells[at]
	if !ok {
		return
	}
	switch s.Kind {
	case api.SSet:
		m.cells[at] = second
	case api.SAdd:
		m.cells[at] = wrapped(new(big.Int).Add(cell, second))
	case api.SSub:
		m.cells[at] = wrapped(new(big.Int).Sub(cell, second))
	case api.SSwap:
		if other, ok := m.cells[second.String()]; ok {
			m.cells[at], m.cells[second.String()] = other, cell
		}
	}
}

// modelOf is a model of a page, with one scope.
func modelOf(p api.Page) model {
	m := model{cells: map[string]*big.Int{}, scopes: []map[string]any{{}}}
	for i, value := range p.Cells {
		m.cells[strconv.Itoa(i)] = big.NewInt(int64(value))
	}
	return m
}

// answered is a number or a truth as Value answers it.
func answered(value any) int {
	if n, ok := value.(*big.Int); ok {
		return int(n.Int64())
	}
	if value.(bool) {
		return 1
	}
	return 0
}

// modelled is what Run must answer of a definition that Check takes, with as many numbers as it has parameters.
func modelled(d api.Def, p api.Page, args []int) outcome {
	m := modelOf(p)
	for i, name := range d.Params {
		m.declare(name, big.NewInt(int64(args[i])))
	}
	for _, need := range d.Needs {
		if !m.truth(need) {
			return outcome{err: api.ErrNeed}
		}
	}
	for _, s := range d.Body {
		m.stmt(s)
	}
	got := outcome{page: api.Page{Lsn: p.Lsn}}
	for i := range p.Cells {
		got.page.Cells[i] = answered(m.cells[strconv.Itoa(i)])
	}
	if len(d.Give) > 0 {
		got.n = answered(m.number(d.Give[0]))
	}
	return got
}

// draw is numbers in a row that looks like chance.
type draw uint64

// next is a number below n.
func (d *draw) next(n int) int {
	*d = *d*6364136223846793005 + 1442695040888963407
	return int(*d>>33) % n
}

// near is an edge, or a number near the first cells, which drawn operations are about.
func (d *draw) near() int {
	if list := edges(); d.next(2) == 0 {
		return list[d.next(len(list))]
	}
	return d.next(6)
}

func (d *draw) page() api.Page {
	p := api.Page{Lsn: d.near()}
	for i := range p.Cells {
		p.Cells[i] = d.near()
	}
	return p
}

func (d *draw) args(count int) []int {
	args := make([]int, count)
	for i := range args {
		args[i] = d.near()
	}
	return args
}

// A maker draws operations without faults but for those of their steps.
type maker struct {
	draw
	numbers []string // the names that are known
	truths  []string
	fresh   int
	left    int  // how many statements there may still be
	cells   bool // whether cells are read
	signs   []string
}

func (m *maker) pick(list ...string) string {
	return list[m.next(len(list))]
}

// name is a name that is new.
func (m *maker) name() string {
	m.fresh++
	return "n" + strconv.Itoa(m.fresh)
}

func (m *maker) number(deep int) string {
	switch choice := m.next(8); {
	case deep == 0 || choice < 2:
		list := append([]string{"0", "1", "2", "3", "4", "59", "60", "9223372036854775807"}, m.numbers...)
		return m.pick(append(list, m.numbers...)...)
	case choice == 2:
		return "-" + m.number(deep-1)
	case choice < 5 && m.cells:
		return "[" + m.number(deep-1) + "]"
	}
	return "(" + m.number(deep-1) + m.pick("+", "-", "*", "/", "%") + m.number(deep-1) + ")"
}

func (m *maker) truth(deep int) string {
	switch choice := m.next(8); {
	case deep == 0 || choice == 0:
		return m.pick(append([]string{"true", "false"}, append(m.truths, m.truths...)...)...)
	case choice == 1:
		return "!" + m.truth(deep-1)
	case choice < 4:
		return "(" + m.truth(deep-1) + m.pick("&&", "||", "==", "!=") + m.truth(deep-1) + ")"
	}
	return "(" + m.number(deep-1) + m.pick("<", "<=", ">", ">=", "==", "!=") + m.number(deep-1) + ")"
}

func (m *maker) block(deep int) string {
	numbers, truths := len(m.numbers), len(m.truths)
	text := "{" + m.stmts(m.next(4), deep) + "}"
	m.numbers, m.truths = m.numbers[:numbers], m.truths[:truths]
	return text
}

func (m *maker) stmts(count, deep int) string {
	text := ""
	for range count {
		if m.left--; m.left >= 0 {
			text += m.stmt(deep)
		}
	}
	return text
}

func (m *maker) stmt(deep int) string {
	switch choice := m.next(10); {
	case choice == 0:
		text, name := m.truth(2), m.name()
		m.truths = append(m.truths, name)
		return "let " + name + "=" + text + ";"
	case choice < 3:
		text, name := m.number(2), m.name()
		m.numbers = append(m.numbers, name)
		return "let " + name + "=" + text + ";"
	case choice < 5 && deep > 0:
		text := "if " + m.truth(2) + m.block(deep-1)
		if m.next(2) == 0 {
			text += "else" + m.block(deep-1)
		}
		return text
	case choice < 7 && deep > 0:
		name, known := m.name(), len(m.numbers)
		m.numbers = append(m.numbers, name)
		text := "for " + name + " in 0.." + m.pick("0", "1", "2", "3", "5", "8") + m.block(deep-1)
		m.numbers = m.numbers[:known]
		return text
	}
	if len(m.signs) == 0 {
		return "if " + m.truth(1) + "{}"
	}
	sign := m.pick(m.signs...)
	if sign == "<>" {
		return "[" + m.number(1) + "]<>[" + m.number(1) + "];"
	}
	return "[" + m.number(1) + "]" + sign + m.number(2) + ";"
}

// operation is a definition that Check takes.
func (m *maker) operation(t *testing.T) api.Def {
	t.Helper()
	for {
		m.numbers, m.truths, m.fresh, m.left = nil, nil, 0, 2+m.next(12)
		for range m.next(5) {
			m.numbers = append(m.numbers, m.name())
		}
		text := "op o(" + strings.Join(m.numbers, ",") + "){"
		for range max(0, m.next(6)-3) {
			text += "need (" + m.truth(2) + "||" + m.truth(1) + ");"
		}
		text += m.stmts(m.next(7), 3)
		if m.next(2) == 0 {
			text += "give " + m.number(3) + ";"
		}
		if text += "}"; len(text) > 480 {
			continue
		}
		d := parsed(t, text)
		if _, err := check.Check(d); err == nil {
			return d
		} else if code := err.(*api.Fault).Code; code != api.ErrSteps && code != api.ErrFull {
			t.Fatalf("%q: %v", text, err)
		}
	}
}

// all is what a drawn operation may do to a cell.
func all() []string {
	return []string{"=", "=", "+=", "-=", "<>", "<>"}
}

// held holds what Run answers of a definition against the second reading.
func held(t *testing.T, d api.Def, p api.Page, args []int) outcome {
	t.Helper()
	got, want := ran(t, d, p, args...), modelled(d, p, args)
	if got != want {
		t.Errorf("%q with %v on %v:\n%v, want\n%v", parse.Print(d), args, p, got, want)
	}
	return got
}

// P9.1: drawn operations, of every second one the loops backwards
func TestDrawnOperations(t *testing.T) {
	m := maker{draw: 9, signs: all()}
	changed, unmet, gave := 0, 0, 0
	for i := range 6000 {
		m.cells = m.next(4) > 0
		d := m.operation(t)
		if i%2 == 0 {
			d = back(d)
		}
		for range 3 {
			p := m.page()
			got := held(t, d, p, m.args(len(d.Params)))
			switch {
			case got.err == api.ErrNeed:
				unmet++
			case got.page != p:
				changed++
			}
			if got.n != 0 {
				gave++
			}
		}
	}
	if changed < 5000 || unmet < 1000 || gave < 3000 {
		t.Error(changed, unmet, gave)
	}
}

// P9.1: every operator, of every two edges, as a value and within operations
func TestEveryOperator(t *testing.T) {
	for _, sign := range strings.Fields("+ - * / % < <= > >= == !=") {
		e := given(t, "a"+sign+"b")
		for _, a := range edges() {
			for _, b := range edges() {
				want := answered(binary(sign, big.NewInt(int64(a)), big.NewInt(int64(b))))
				if value, ok := valued(t, e, paged(), map[string]int{"a": a, "b": b}); !ok || value != want {
					t.Errorf("%d %s %d: %d, want %d", a, sign, b, value, want)
				}
			}
		}
	}
}

// P9.1: Value of drawn expressions, on the names that stand around them
func TestDrawnValues(t *testing.T) {
	m := maker{draw: 19, cells: true}
	m.numbers = []string{"a", "b", "c"}
	for range 20000 {
		text := m.number(4)
		if m.next(3) == 0 {
			text = m.truth(3)
		}
		if len(text) > 466 {
			continue
		}
		names := map[string]int{"a": m.near(), "b": m.near(), "c": m.near()}
		p := m.page()
		second := modelOf(p)
		for name, value := range names {
			second.declare(name, big.NewInt(int64(value)))
		}
		isWorth(t, text, answered(second.expr(given(t, text))), p, names)
	}
}
