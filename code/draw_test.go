package code_test

import (
	"strconv"
	"strings"
	"testing"

	"palimpsest/api"
	"palimpsest/check"
	"palimpsest/code"
)

// draw is numbers in a row that looks like chance.
type draw uint64

// next is a number below n.
func (d *draw) next(n int) int {
	*d = *d*6364136223846793005 + 1442695040888963407
	return int(*d>>33) % n
}

// near is an edge, or a number near the first cells, which drawn operations are about.
func (d *draw) near() int {
	if list := edges(); d.next(2) == 0 {
		return list[d.next(len(list))]
	}
	return d.next(6)
}

func (d *draw) page() api.Page {
	p := api.Page{Lsn: d.near()}
	for i := range p.Cells {
		p.Cells[i] = d.near()
	}
	return p
}

func (d *draw) args(count int) []int {
	args := make([]int, count)
	for i := range args {
		args[i] = d.near()
	}
	return args
}

// A maker draws operations that Check takes, if they don't take too many steps.
type maker struct {
	draw
	numbers []string // the names that are known
	truths  []string
	fresh   int
	left    int      // how many statements there may still be
	signs   []string // what may be done to a cell
	cells   bool     // whether cells are read
}

func (m *maker) pick(list ...string) string {
	return list[m.next(len(list))]
}

// name is a name that is new.
func (m *maker) name() string {
	m.fresh++
	return "n" + strconv.Itoa(m.fresh)
}

// fixed is a number without names and cells.
func (m *maker) fixed(deep int) string {
	if deep == 0 || m.next(3) == 0 {
		return m.pick("-", "") + m.pick("0", "1", "2", "7", "60", "9223372036854775807")
	}
	return "(" + m.fixed(deep-1) + m.pick("+", "-", "*", "/", "%") + m.fixed(deep-1) + ")"
}

func (m *maker) number(deep int) string {
	switch choice := m.next(10); {
	case choice == 0:
		return m.fixed(deep)
	case deep == 0 || choice < 3:
		list := append([]string{"0", "1", "2", "3", "59", "60"}, m.numbers...)
		return m.pick(append(list, m.numbers...)...)
	case choice == 3:
		return "-" + m.number(deep-1)
	case choice < 6 && m.cells:
		return "[" + m.number(deep-1) + "]"
	}
	return "(" + m.number(deep-1) + m.pick("+", "-", "*", "/", "%") + m.number(deep-1) + ")"
}

func (m *maker) truth(deep int) string {
	switch choice := m.next(9); {
	case deep == 0 || choice == 0:
		return m.pick(append([]string{"true", "false"}, append(m.truths, m.truths...)...)...)
	case choice == 1:
		return "!" + m.truth(deep-1)
	case choice == 2:
		return "(" + m.fixed(1) + m.pick("<", "<=", ">", ">=", "==", "!=") + m.fixed(1) + ")"
	case choice < 5:
		return "(" + m.truth(deep-1) + m.pick("&&", "||", "==", "!=") + m.truth(deep-1) + ")"
	}
	return "(" + m.number(deep-1) + m.pick("<", "<=", ">", ">=", "==", "!=") + m.number(deep-1) + ")"
}

func (m *maker) block(deep int) string {
	numbers, truths := len(m.numbers), len(m.truths)
	text := "{" + m.stmts(m.next(5), deep) + "}"
	m.numbers, m.truths = m.numbers[:numbers], m.truths[:truths]
	return text
}

func (m *maker) stmts(count, deep int) string {
	text := ""
	for range count {
		if m.left--; m.left >= 0 {
			text += m.stmt(deep)
		}
	}
	return text
}

func (m *maker) stmt(deep int) string {
	switch choice := m.next(12); {
	case choice == 0:
		text, name := m.truth(2), m.name()
		m.truths = append(m.truths, name)
		return "let " + name + "=" + text + ";"
	case choice < 3:
		text, name := m.number(2), m.name()
		m.numbers = append(m.numbers, name)
		return "let " + name + "=" + text + ";"
	case choice < 5 && deep > 0:
		text := "if " + m.truth(2) + m.block(deep-1)
		if m.next(2) == 0 {
			text += "else" + m.block(deep-1)
		}
		return text
	case choice < 8 && deep > 0:
		name, known := m.name(), len(m.numbers)
		m.numbers = append(m.numbers, name)
		text := "for " + name + " in 0.." + m.pick("0", "1", "2", "3", "5", "8") + m.block(deep-1)
		m.numbers = m.numbers[:known]
		return text
	}
	sign := m.pick(m.signs...)
	if sign == "<>" {
		return "[" + m.number(1) + "]<>[" + m.number(1) + "];"
	}
	return "[" + m.number(1) + "]" + sign + m.number(2) + ";"
}

// operation is a definition that Check takes.
func (m *maker) operation(t *testing.T) api.Def {
	t.Helper()
	for {
		m.numbers, m.truths, m.fresh, m.left = nil, nil, 0, 2+m.next(14)
		for range m.next(9) {
			m.numbers = append(m.numbers, m.name())
		}
		text := "op o(" + strings.Join(m.numbers, ",") + "){"
		for range max(0, m.next(6)-3) {
			text += "need (" + m.truth(2) + "||" + m.truth(1) + ");"
		}
		text += m.stmts(1+m.next(8), 4)
		if m.next(2) == 0 {
			text += "give " + m.number(3) + ";"
		}
		if text += "}"; len(text) > 480 {
			continue
		}
		d := parsed(t, text)
		_, err := check.Check(d)
		if err == nil {
			return d
		}
		if fault := err.(*api.Fault).Code; fault != api.ErrSteps && fault != api.ErrFull {
			t.Fatalf("%q: %v", text, err)
		}
	}
}

// P11.1: drawn operations, such that can be turned round and others, with loops that run either way; and what their codes come to
func TestDrawnOperations(t *testing.T) {
	m := maker{draw: 11}
	turns, changed, unmet, gave, most := 0, 0, 0, 0, 0
	for i := range 6000 {
		m.signs, m.cells = []string{"=", "+=", "-=", "<>"}, m.next(4) > 0
		if i%2 == 0 {
			m.signs, m.cells = []string{"+=", "-=", "<>"}, false
		}
		defs := isMadeToo(t, m.operation(t), func() bool { return m.next(2) == 0 })
		if len(defs) > 3 {
			turns++
		}
		for _, d := range defs {
			p := m.page()
			got := isRun(t, d, p, m.args(len(d.Params))...)
			most = max(most, got.steps)
			switch {
			case got.err == api.ErrNeed:
				unmet++
			case got.page != p:
				changed++
			}
			if got.n != 0 {
				gave++
			}
		}
	}
	if turns < 2500 || changed < 10000 || unmet < 1500 || gave < 3000 || most < 1000 {
		t.Error(turns, changed, unmet, gave, most)
	}
}

// P11.1: of drawn operations that have a slip in them those that Check refuses are refused
func TestDrawnRefusals(t *testing.T) {
	m := maker{draw: 111, signs: []string{"=", "+="}, cells: true}
	refusals, well := 0, 0
	for range 4000 {
		d := m.operation(t)
		m.slip(d.Body)
		if _, err := check.Check(d); err != nil {
			refusedDef(t, d)
			refusals++
		} else {
			isMade(t, d)
			well++
		}
	}
	if min(refusals, well) < 1000 {
		t.Error(refusals, well)
	}
}

// slip makes one statement, of those within one another, another one.
func (m *maker) slip(list []api.Stmt) {
	if len(list) == 0 {
		return
	}
	s := &list[m.next(len(list))]
	switch m.next(6) {
	case 0:
		s.N = 64 + m.next(2)
	case 1:
		s.Name = m.pick("n1", "n2", "n3")
	case 2:
		for i := range s.Exprs {
			s.Exprs[i] = api.Expr{Kind: api.EName, Name: m.pick("n1", "n9", "n13", "true")}
		}
	default:
		m.slip(s.Body)
		m.slip(s.Else)
	}
}

// P11.2: names' names don't matter, and of where something stands in a text nothing but what stands ahead of what

// renamed is a definition with other names, and other places.
func renamed(d api.Def, other func(name string) string, place func(at int) int) api.Def {
	var exprs func(list []api.Expr) []api.Expr
	exprs = func(list []api.Expr) []api.Expr {
		var all []api.Expr
		for _, e := range list {
			if e.Kind == api.EName && e.Name != "true" && e.Name != "false" {
				e.Name = other(e.Name)
			}
			e.Args, e.At = exprs(e.Args), place(e.At)
			all = append(all, e)
		}
		return all
	}
	var stmts func(list []api.Stmt) []api.Stmt
	stmts = func(list []api.Stmt) []api.Stmt {
		var all []api.Stmt
		for _, s := range list {
			if s.Name != "" {
				s.Name = other(s.Name)
			}
			s.Exprs, s.Body, s.Else, s.At = exprs(s.Exprs), stmts(s.Body), stmts(s.Else), place(s.At)
			all = append(all, s)
		}
		return all
	}
	u := api.Def{Name: other(d.Name), Needs: exprs(d.Needs), Body: stmts(d.Body), Give: exprs(d.Give)}
	for _, name := range d.Params {
		u.Params = append(u.Params, other(name))
	}
	return u
}

// isSame tells of two definitions that have other codes.
func isSame(t *testing.T, a, b api.Def) {
	t.Helper()
	if one, two := compiled(t, a), compiled(t, b); listed(one) != listed(two) || !code.Same(one, two) {
		t.Errorf("%q and %q:\n%s,\n%s", shown(a), shown(b), listed(one), listed(two))
	}
}

func TestOtherNames(t *testing.T) {
	m := maker{draw: 112, signs: []string{"+=", "-=", "<>"}}
	ways := []func(name string) string{
		func(name string) string { return name + "_" },
		// In another order.
		func(name string) string { return "z" + string(rune('z'-len(name))) + reversed(name) },
		func(name string) string {
			n, _ := strconv.Atoi(strings.TrimLeft(name, "no"))
			return "a" + strconv.Itoa(1000-n)
		},
		// Names that keywords and others begin with.
		func(name string) string { return "true_" + name },
		func(name string) string { return strings.ToUpper(name) },
	}
	for range 1500 {
		m.cells = m.next(2) == 0
		for _, d := range isMadeToo(t, m.operation(t), func() bool { return m.next(2) == 0 }) {
			for _, way := range ways {
				isSame(t, d, renamed(d, way, func(at int) int { return at }))
			}
			d.Name = "other"
			isSame(t, d, renamed(d, func(name string) string { return name }, func(at int) int { return 1000*at - 7 }))
		}
	}
}

func reversed(name string) string {
	text := ""
	for _, c := range name {
		text = string(c) + text
	}
	return text
}

func TestOtherNamesOfTexts(t *testing.T) {
	for _, two := range [][2]string{
		{"op f(a,b){[a]=b;}", "op g(b,a){[b]=a;}"},
		{"op f(a){let b=a;let c=b;[b]<>[c];}", "op f(c){let b=c;let a=b;[b]<>[a];}"},
		{"op f(a){for b in 0..2{let c=b;[c]+=a;}let d=a;give d;}", "op d(d){for c in 0..2{let b=c;[b]+=d;}let a=d;give a;}"},
		{"op f(i) { [i + 1 * 2] += 3; }", "op g(k) { [k + 2] += 4 - 1; }"},
		{"op o(truth){give truth;}", "op o(o){give o;}"},
		{"op o(i){need i<60;[i]+=1;give [i];}", " op  o ( i ) { # none\n need ( i )<( 60 ) ;\n\t[ (i) ] += (1) ; give [ i ] ; } # end"},
	} {
		isSame(t, parsed(t, two[0]), parsed(t, two[1]))
		isSame(t, back(parsed(t, two[0])), back(parsed(t, two[1])))
	}
	// Turned, too, where only places tell what stood ahead of what.
	for _, two := range [][2]string{
		{"op f(a){for b in 0..2{let c=b;[c]+=a;}let d=a;[d]-=1;}", "op d(d){for c in 0..2{let b=c;[b]+=d;}let a=d;[a]-=1;}"},
		{"op f(){for a in 0..2{[a]+=1;}for b in 0..3{[b]+=1;}}", "op f(){ # none\n for b in 0..2 { [b] += 1; } " + strings.Repeat(" ", 99) + " for a in 0..3 { [a] += 1; } }"},
	} {
		isSame(t, turned(t, parsed(t, two[0])), turned(t, parsed(t, two[1])))
	}
}
