package invert_test

import (
	"cmp"
	"reflect"
	"slices"
	"strconv"
	"strings"
	"testing"

	"palimpsest/api"
	"palimpsest/check"
	"palimpsest/eval"
	"palimpsest/invert"
)

// A second reading of the chapter: the places of a block's statements are sorted by where they must come to stand, and kinds are
// looked up in a table.
func modelled(list []api.Stmt) []api.Stmt {
	kinds := map[int]int{api.SLet: api.SLet, api.SAdd: api.SSub, api.SSub: api.SAdd, api.SSwap: api.SSwap, api.SIf: api.SIf, api.SFor: api.SBack, api.SBack: api.SFor}
	var all []api.Stmt
	var ranks []int
	for i, s := range list {
		rank := 2*len(list) - i
		if s.Kind == api.SLet {
			rank = i
		}
		ranks = append(ranks, rank)
		all = append(all, api.Stmt{Kind: kinds[s.Kind], Name: s.Name, Exprs: s.Exprs, N: s.N, Body: modelled(s.Body), Else: modelled(s.Else), At: s.At})
	}
	var sorted []api.Stmt
	for _, rank := range slices.SortedFunc(slices.Values(ranks), cmp.Compare) {
		sorted = append(sorted, all[slices.Index(ranks, rank)])
	}
	return sorted
}

// plain is statements without empty lists: nil stands for each.
func plain(list []api.Stmt) []api.Stmt {
	var all []api.Stmt
	for _, s := range list {
		s.Exprs, s.Body, s.Else = plainExprs(s.Exprs), plain(s.Body), plain(s.Else)
		all = append(all, s)
	}
	return all
}

func plainExprs(list []api.Expr) []api.Expr {
	var all []api.Expr
	for _, e := range list {
		e.Args = plainExprs(e.Args)
		all = append(all, e)
	}
	return all
}

// isTurned holds what Turn answers of a definition against the second reading.
func isTurned(t *testing.T, d api.Def) api.Def {
	t.Helper()
	u := turned(t, d)
	if want := modelled(d.Body); u.Name != d.Name || !slices.Equal(u.Params, d.Params) || !reflect.DeepEqual(plain(u.Body), plain(want)) {
		t.Errorf("%q: turned %q, want %q", shown(d), shown(u), shownStmts(want))
	}
	if len(u.Needs)+len(u.Give) > 0 {
		t.Errorf("%q: turned %q", shown(d), shown(u))
	}
	return u
}

// A change is what one statement did in a run: what is turned must do the same changes, each the other way, from the last one on.
type change struct {
	kind, first, second int
}

// A run notes the changes of an operation's statements. No statement reads a cell, so it needs no page.
type run struct {
	names   map[string]int
	changes []change
}

func (r *run) value(e api.Expr) int {
	n, err := eval.Value(e, api.Page{}, r.names)
	if err != nil {
		panic(err)
	}
	return n
}

func (r *run) block(list []api.Stmt) {
	for _, s := range list {
		r.stmt(s)
	}
}

func (r *run) stmt(s api.Stmt) {
	switch s.Kind {
	case api.SLet:
		r.names[s.Name] = r.value(s.Exprs[0])
	case api.SIf:
		if r.value(s.Exprs[0]) != 0 {
			r.block(s.Body)
		} else {
			r.block(s.Else)
		}
	case api.SFor, api.SBack:
		for i := range s.N {
			r.names[s.Name] = i
			if s.Kind == api.SBack {
				r.names[s.Name] = s.N - 1 - i
			}
			r.block(s.Body)
		}
	default:
		r.changes = append(r.changes, change{s.Kind, r.value(s.Exprs[0]), r.value(s.Exprs[1])})
	}
}

// changesOf is the changes of an operation's statements with these numbers.
func changesOf(d api.Def, args []int) []change {
	r := run{names: map[string]int{}}
	for i, name := range d.Params {
		r.names[name] = args[i]
	}
	r.block(d.Body)
	return r.changes
}

// otherWay is changes, each the other way, from the last one on.
func otherWay(list []change) []change {
	var all []change
	for _, c := range slices.Backward(list) {
		switch c.kind {
		case api.SAdd:
			c.kind = api.SSub
		case api.SSub:
			c.kind = api.SAdd
		}
		all = append(all, c)
	}
	return all
}

// isOtherWay holds the changes of a turned operation against those of the definition, and answers how many there are.
func isOtherWay(t *testing.T, d, u api.Def, args []int) int {
	t.Helper()
	there, back := changesOf(d, args), changesOf(u, args)
	if want := otherWay(there); !slices.Equal(back, want) {
		t.Errorf("%q with %v, turned %q: %v, want %v", shown(d), args, shown(u), back, want)
	}
	return len(there)
}

// draw is numbers in a row that looks like chance.
type draw uint64

// next is a number below n.
func (d *draw) next(n int) int {
	*d = *d*6364136223846793005 + 1442695040888963407
	return int(*d>>33) % n
}

// near is an edge, or a number near the first cells, which drawn operations are about.
func (d *draw) near() int {
	if list := edges(); d.next(2) == 0 {
		return list[d.next(len(list))]
	}
	return d.next(6)
}

func (d *draw) page() api.Page {
	p := api.Page{Lsn: d.near()}
	for i := range p.Cells {
		p.Cells[i] = d.near()
	}
	return p
}

func (d *draw) args(count int) []int {
	args := make([]int, count)
	for i := range args {
		args[i] = d.near()
	}
	return args
}

// A maker draws operations that can be turned round; if it slips, now and then, one that can't be, or one that Check refuses.
type maker struct {
	draw
	numbers []string // the names that are known
	truths  []string
	fresh   int
	left    int  // how many statements there may still be
	slips   int  // one choice of so many is a slip; 0 for none
	cells   bool // whether this part may read cells
}

func (m *maker) pick(list ...string) string {
	return list[m.next(len(list))]
}

func (m *maker) slip() bool {
	return m.slips > 0 && m.next(m.slips) == 0
}

// name is a name that is new.
func (m *maker) name() string {
	m.fresh++
	return "n" + strconv.Itoa(m.fresh)
}

func (m *maker) number(deep int) string {
	switch choice := m.next(8); {
	case m.slip():
		return m.pick("[0]", "[n1]", "x", "true", "n9")
	case deep == 0 || choice < 2:
		list := append([]string{"0", "1", "2", "3", "4", "59", "60", "9223372036854775807"}, m.numbers...)
		return m.pick(append(append(list, m.numbers...), m.numbers...)...)
	case choice == 2:
		return "-" + m.number(deep-1)
	case choice == 3 && m.cells:
		return "[" + m.number(deep-1) + "]"
	}
	return "(" + m.number(deep-1) + m.pick("+", "-", "*", "/", "%") + m.number(deep-1) + ")"
}

func (m *maker) truth(deep int) string {
	switch choice := m.next(8); {
	case deep == 0 || choice == 0:
		return m.pick(append([]string{"true", "false"}, append(m.truths, m.truths...)...)...)
	case choice == 1:
		return "!" + m.truth(deep-1)
	case choice < 4:
		return "(" + m.truth(deep-1) + m.pick("&&", "||", "==", "!=") + m.truth(deep-1) + ")"
	}
	return "(" + m.number(deep-1) + m.pick("<", "<=", ">", ">=", "==", "!=") + m.number(deep-1) + ")"
}

func (m *maker) block(deep int) string {
	numbers, truths := len(m.numbers), len(m.truths)
	text := "{" + m.stmts(m.next(5), deep) + "}"
	m.numbers, m.truths = m.numbers[:numbers], m.truths[:truths]
	return text
}

func (m *maker) stmts(count, deep int) string {
	text := ""
	for range count {
		if m.left--; m.left >= 0 {
			text += m.stmt(deep)
		}
	}
	return text
}

func (m *maker) stmt(deep int) string {
	switch choice := m.next(12); {
	case choice == 0:
		text, name := m.truth(2), m.name()
		m.truths = append(m.truths, name)
		return "let " + name + "=" + text + ";"
	case choice < 3:
		text, name := m.number(2), m.name()
		m.numbers = append(m.numbers, name)
		return "let " + name + "=" + text + ";"
	case choice < 5 && deep > 0:
		text := "if " + m.truth(2) + m.block(deep-1)
		if m.next(2) == 0 {
			text += "else" + m.block(deep-1)
		}
		return text
	case choice < 7 && deep > 0:
		name, known := m.name(), len(m.numbers)
		m.numbers = append(m.numbers, name)
		text := "for " + name + " in 0.." + m.pick("0", "1", "2", "3", "5", "8") + m.block(deep-1)
		m.numbers = m.numbers[:known]
		return text
	case m.slip():
		return "[" + m.number(1) + "]=" + m.number(1) + ";"
	case choice < 9:
		return "[" + m.number(1) + "]<>[" + m.number(1) + "];"
	}
	return "[" + m.number(1) + "]" + m.pick("+=", "-=") + m.number(2) + ";"
}

// operation is a definition of a text.
func (m *maker) operation(t *testing.T) api.Def {
	t.Helper()
	for {
		m.numbers, m.truths, m.fresh, m.left = nil, nil, 0, 2+m.next(14)
		for range m.next(5) {
			m.numbers = append(m.numbers, m.name())
		}
		text := "op o(" + strings.Join(m.numbers, ",") + "){"
		m.cells = true
		for range max(0, m.next(6)-3) {
			text += "need (" + m.truth(2) + "||" + m.truth(1) + ");"
		}
		m.cells = false
		text += m.stmts(m.next(9), 3)
		m.cells = true
		if m.next(3) == 0 {
			text += "give " + m.number(3) + ";"
		}
		if text += "}"; len(text) <= 480 {
			return parsed(t, text)
		}
	}
}

// checked is an operation that Check takes.
func (m *maker) checked(t *testing.T) api.Def {
	t.Helper()
	for {
		d := m.operation(t)
		_, err := check.Check(d)
		if err == nil {
			return d
		}
		if code := err.(*api.Fault).Code; code != api.ErrSteps && code != api.ErrFull {
			t.Fatalf("%q: %v", shown(d), err)
		}
	}
}

// P10.1, P10.2 and P10.3 of drawn operations, and of what they are turned to
func TestDrawnOperations(t *testing.T) {
	m := maker{draw: 10}
	changed, unmet, most := 0, 0, 0
	for range 5000 {
		d := m.checked(t)
		u := isTurned(t, d)
		twice := isTurned(t, u)
		sound(t, d)
		sound(t, u)
		for range 3 {
			p, args := m.page(), m.args(len(d.Params))
			most = max(most, isOtherWay(t, d, u, args))
			isOtherWay(t, u, twice, args)
			if _, _, err := eval.Run(d, p, args...); err == api.ErrNeed {
				unmet++
			} else if undone(t, d, p, args...) != p {
				changed++
			}
			undone(t, u, p, args...)
			if got, want := ran(t, twice, p, args...), ran(t, bare(d), p, args...); got != want {
				t.Errorf("%q with %v, turned twice %q: %v, want %v", shown(d), args, shown(twice), got, want)
			}
		}
	}
	if changed < 4000 || unmet < 500 || most < 100 {
		t.Error(changed, unmet, most)
	}
}

// sets tells whether a statement sets; reads, whether one reads a cell.
func sets(list []api.Stmt) bool {
	return slices.ContainsFunc(list, func(s api.Stmt) bool { return s.Kind == api.SSet || sets(s.Body) || sets(s.Else) })
}

func reads(list []api.Stmt) bool {
	return slices.ContainsFunc(list, func(s api.Stmt) bool { return hasCell(s.Exprs) || reads(s.Body) || reads(s.Else) })
}

func hasCell(list []api.Expr) bool {
	return slices.ContainsFunc(list, func(e api.Expr) bool { return e.Kind == api.ECell || hasCell(e.Args) })
}

// P10.1: of drawn operations of which some set, read a cell, or have a fault, those are refused
func TestDrawnRefusals(t *testing.T) {
	faults, set, read, well := 0, 0, 0, 0
	for slips := range 40 {
		m := maker{draw: draw(slips), slips: 2 + 3*slips}
		for range 400 {
			d := m.operation(t)
			_, err := check.Check(d)
			switch {
			case err != nil:
				faults++
			case sets(d.Body):
				set++
			case reads(d.Body):
				read++
			default:
				well++
				isTurned(t, d)
				continue
			}
			refusedDef(t, d)
		}
	}
	if min(faults, set, read, well) < 300 {
		t.Error(faults, set, read, well)
	}
}

// P10.1: all rows of up to four statements out of some that tell, in the operation's own block and in blocks of each kind
func TestAllShortOperations(t *testing.T) {
	parts := []string{"let a@=i;", "[i]+=@;", "[@]-=i;", "[i]<>[@];", "if i<@{[i]+=1;let b@=i;}", "for c@ in 0..@{[c@]-=1;}"}
	rows := [][]string{nil}
	for from := 0; len(rows[from]) < 4; from++ {
		for _, part := range parts {
			rows = append(rows, append(slices.Clone(rows[from]), part))
		}
	}
	refusals := 0
	for _, row := range rows {
		for _, around := range []string{"*", "if i<3{*}", "if i<3{}else{*}", "for z in 0..3{*}", "[7]<>[i];if i<3{for z in 0..2{*}[8]<>[i];}let y=i;"} {
			d := parsed(t, "op o(i){"+strings.Replace(around, "*", numbered(row...), 1)+"}")
			u := isTurned(t, d)
			for _, i := range []int{0, 2, 3} {
				isOtherWay(t, d, u, []int{i})
			}
		}
		// One statement more that sets, or reads a cell, at each place of the row.
		for at := range len(row) + 1 {
			for _, bad := range []string{"[i]=1;", "let x=[i];"} {
				d := parsed(t, "op o(i){"+numbered(slices.Insert(slices.Clone(row), at, bad)...)+"}")
				if _, err := invert.Turn(d); err != api.ErrCode {
					t.Errorf("%q: %v", shown(d), err)
				}
				refusals++
			}
		}
	}
	if len(rows) < 1000 || refusals < 10000 {
		t.Error(len(rows), refusals)
	}
}
