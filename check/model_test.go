package check_test

import (
	"math/big"
	"slices"
	"strconv"
	"strings"
	"testing"

	"palimpsest/api"
	"palimpsest/check"
	"palimpsest/parse"
)

// A second reading of the chapter: a definition's questions are laid in a row, in the order in which they are asked; a name is known
// from the question at which it was declared to that at which its block ends.
type question struct {
	ask   string // "name", "type", "declare", "rounds"
	expr  api.Expr
	of    string    // the type that expr must be of, if it must be of one
	alike *api.Expr // the one that expr must be alike, if it must
	name  string
	n     int
	at    int
	until int // where the block ends in which the name is known
}

type model struct {
	row   []question
	cells map[string]int // how many cells are read in the needs, the statements and what is given
	part  string
	kinds map[int]int // how many statements there are of each kind
}

func (m *model) expr(e api.Expr, of string) {
	for i, part := range e.Args {
		switch {
		case e.Kind == api.EBinary && operators[e.Name][0] == "" && i == 0:
			m.expr(part, "")
		case e.Kind == api.EBinary && operators[e.Name][0] == "":
			m.expr(part, "")
			m.row = append(m.row, question{ask: "type", expr: part, alike: &e.Args[0], at: part.At})
		case e.Kind == api.EBinary:
			m.expr(part, operators[e.Name][0])
		case e.Kind == api.ENot:
			m.expr(part, "truth")
		default:
			m.expr(part, "number")
		}
	}
	switch e.Kind {
	case api.EName:
		m.row = append(m.row, question{ask: "name", name: e.Name, at: e.At})
	case api.ECell:
		m.cells[m.part]++
	}
	if of != "" {
		m.row = append(m.row, question{ask: "type", expr: e, of: of, at: e.At})
	}
}

// block lays a block's questions; the names that it declares are known up to its end.
func (m *model) block(list []api.Stmt) {
	from := len(m.row)
	for _, s := range list {
		m.stmt(s)
	}
	m.close(from)
}

func (m *model) close(from int) {
	for i := from; i < len(m.row); i++ {
		if m.row[i].ask == "declare" && m.row[i].until < 0 {
			m.row[i].until = len(m.row)
		}
	}
}

func (m *model) stmt(s api.Stmt) {
	m.kinds[s.Kind]++
	from := len(m.row)
	for _, e := range s.Exprs {
		switch s.Kind {
		case api.SLet:
			m.expr(e, "")
		case api.SIf:
			m.expr(e, "truth")
		default:
			m.expr(e, "number")
		}
	}
	switch s.Kind {
	case api.SLet:
		m.row = append(m.row, question{ask: "declare", name: s.Name, expr: s.Exprs[0], at: s.At, until: -1})
	case api.SFor, api.SBack:
		m.row = append(m.row, question{ask: "declare", name: s.Name, of: "number", at: s.At, until: -1})
		m.row = append(m.row, question{ask: "rounds", n: s.N, at: s.At})
		m.block(s.Body)
		m.close(from)
	case api.SIf:
		m.block(s.Body)
		m.block(s.Else)
	}
}

// declared is the question that declares a name which is known at a place of the row, -1 if none does.
func (m *model) declared(name string, place int) int {
	return slices.IndexFunc(m.row[:place], func(q question) bool {
		return q.ask == "declare" && q.name == name && place < q.until
	})
}

// typeOf is the type of an expression that stands at a place of the row.
func (m *model) typeOf(e api.Expr, place int) string {
	switch e.Kind {
	case api.EName:
		if e.Name == "true" || e.Name == "false" {
			return "truth"
		}
		if i := m.declared(e.Name, place); m.row[i].of == "" {
			return m.typeOf(m.row[i].expr, i)
		}
	case api.EBinary:
		return operators[e.Name][1]
	case api.ENot:
		return "truth"
	}
	return "number"
}

// answer is what a question is answered with: 0 if there is no fault.
func (m *model) answer(place int) api.Errno {
	q := m.row[place]
	switch q.ask {
	case "name":
		if q.name != "true" && q.name != "false" && m.declared(q.name, place) < 0 {
			return api.ErrName
		}
	case "type":
		want := q.of
		if q.alike != nil {
			want = m.typeOf(*q.alike, place)
		}
		if m.typeOf(q.expr, place) != want {
			return api.ErrType
		}
	case "declare":
		names := map[string]int{}
		for _, other := range m.row[:place] {
			if other.ask == "declare" {
				names[other.name]++
			}
		}
		if names[q.name] > 0 {
			return api.ErrName
		}
		if len(names) >= 16 {
			return api.ErrFull
		}
	case "rounds":
		if q.n > 64 {
			return api.ErrSteps
		}
	}
	return 0
}

// expressions is how many expressions there are.
func expressions(list []api.Expr) *big.Int {
	sum := big.NewInt(int64(len(list)))
	for _, e := range list {
		sum.Add(sum, expressions(e.Args))
	}
	return sum
}

// mostSteps is how many steps a block takes at most, however many these are.
func mostSteps(list []api.Stmt) *big.Int {
	sum := big.NewInt(int64(len(list)))
	for _, s := range list {
		sum.Add(sum, expressions(s.Exprs))
		body, other := mostSteps(s.Body), mostSteps(s.Else)
		switch {
		case s.Kind == api.SIf && body.Cmp(other) < 0:
			sum.Add(sum, other)
		case s.Kind == api.SIf:
			sum.Add(sum, body)
		case s.Kind == api.SFor || s.Kind == api.SBack:
			body.Add(body, big.NewInt(1))
			sum.Add(sum, body.Mul(body, big.NewInt(int64(s.N))))
		}
	}
	return sum
}

// modelled is what Check must answer of a definition that comes from a text.
func modelled(d api.Def) outcome {
	m := model{cells: map[string]int{}, kinds: map[int]int{}}
	if len(d.Params) > 8 {
		return outcome{fault: api.Fault{Code: api.ErrFull}}
	}
	for _, name := range d.Params {
		m.row = append(m.row, question{ask: "declare", name: name, of: "number", until: -1})
	}
	m.part = "needs"
	for _, e := range d.Needs {
		m.expr(e, "truth")
	}
	m.part = "statements"
	for _, s := range d.Body {
		m.stmt(s)
	}
	m.part = "give"
	for _, e := range d.Give {
		m.expr(e, "number")
	}
	m.close(0)
	names := 0
	for place, q := range m.row {
		if code := m.answer(place); code != 0 {
			return outcome{fault: api.Fault{Code: code, At: q.at}}
		}
		if q.ask == "declare" {
			names++
		}
	}
	steps := mostSteps(d.Body)
	steps.Add(steps, expressions(d.Needs))
	steps.Add(steps, expressions(d.Give))
	if steps.Cmp(big.NewInt(2048)) > 0 {
		return outcome{fault: api.Fault{Code: api.ErrSteps}}
	}
	return outcome{info: api.Info{Mode: m.mode(), Steps: int(steps.Int64()), Names: names, Turns: m.kinds[api.SSet] == 0 && m.cells["statements"] == 0}}
}

func (m *model) mode() int {
	switch {
	case m.kinds[api.SSet]+m.kinds[api.SAdd]+m.kinds[api.SSub]+m.kinds[api.SSwap] == 0:
		return api.Reads
	case m.kinds[api.SSet] > 0 || m.kinds[api.SSwap] > 0 || len(m.cells) > 0:
		return api.Writes
	}
	return api.Adds
}

// draw is numbers in a row that looks like chance.
type draw uint64

// next is a number below n.
func (d *draw) next(n int) int {
	*d = *d*6364136223846793005 + 1442695040888963407
	return int(*d>>33) % n
}

// A maker draws operations that are well for the most part: one choice of so many is taken without asking whether it fits.
type maker struct {
	draw
	wrong int
	names []string // that are known, each behind its type
	fresh int
	left  int // how many statements there may still be
	cells bool
}

func (m *maker) slips() bool {
	return m.next(m.wrong) == 0
}

// leaf is an expression of one token.
func (m *maker) leaf(truth bool) string {
	front := "number "
	own := []string{"0", "1", "2", "59", "60", "9223372036854775807"}
	if truth {
		front, own = "truth ", []string{"true", "false"}
	}
	for _, name := range m.names {
		if rest, ok := strings.CutPrefix(name, front); ok {
			own = append(own, rest, rest)
		}
	}
	if m.slips() {
		own = append(own[:1], "n"+strconv.Itoa(m.next(m.fresh+2)))
		return own[1]
	}
	return own[m.next(len(own))]
}

func (m *maker) expr(truth bool, deep int) string {
	if m.slips() {
		truth = !truth
	}
	inner := func(truth bool) string { return m.expr(truth, deep-1) }
	if deep == 0 || m.next(3) == 0 {
		return m.leaf(truth)
	}
	relations, sums := strings.Fields("< <= > >= == !="), strings.Fields("+ - * / %")
	if !truth {
		switch m.next(5) {
		case 0:
			return "-" + inner(false)
		case 1:
			if m.cells {
				return "[" + inner(false) + "]"
			}
		}
		return "(" + inner(false) + sums[m.next(5)] + inner(false) + ")"
	}
	switch m.next(6) {
	case 0:
		return "!" + inner(true)
	case 1:
		return "(" + inner(true) + relations[4+m.next(2)] + inner(true) + ")"
	case 2:
		return "(" + inner(true) + []string{"&&", "||"}[m.next(2)] + inner(true) + ")"
	}
	return "(" + inner(false) + relations[m.next(6)] + inner(false) + ")"
}

// name is a name that is new for the most part.
func (m *maker) name() string {
	if m.slips() {
		return "n" + strconv.Itoa(m.next(m.fresh+1))
	}
	m.fresh++
	return "n" + strconv.Itoa(m.fresh)
}

func (m *maker) block(deep int) string {
	known := len(m.names)
	text := ""
	for range m.next(4) {
		if m.left--; m.left >= 0 {
			text += m.stmt(deep)
		}
	}
	m.names = m.names[:known]
	return "{" + text + "}"
}

func (m *maker) stmt(deep int) string {
	kind := m.next(8)
	if deep == 0 {
		kind %= 5
	}
	switch kind {
	case 0:
		truth := m.next(2) == 0
		text := m.expr(truth, 2)
		name := m.name()
		m.names = append(m.names, map[bool]string{true: "truth ", false: "number "}[truth]+name)
		return "let " + name + "=" + text + ";"
	case 1:
		return "[" + m.expr(false, 1) + "]" + []string{"+=", "-=", "="}[m.next(3)] + m.expr(false, 2) + ";"
	case 2:
		return "[" + m.expr(false, 1) + "]<>[" + m.expr(false, 1) + "];"
	case 3, 4:
		return "[" + m.expr(false, 1) + "]" + []string{"+=", "-="}[m.next(2)] + m.expr(false, 2) + ";"
	case 5, 6:
		text := "if " + m.expr(true, 2) + m.block(deep-1)
		if m.next(2) == 0 {
			text += "else" + m.block(deep-1)
		}
		return text
	}
	name := m.name()
	known := len(m.names)
	m.names = append(m.names, "number "+name)
	rounds := []int{0, 1, 2, 3, 4, 8, 16, 64, 65}[m.next(8)]
	if m.slips() {
		rounds = 65
	}
	text := "for " + name + " in 0.." + strconv.Itoa(rounds) + m.block(deep-1)
	m.names = m.names[:known]
	return text
}

// operation is a text of an operation that has one.
func (m *maker) operation() string {
	for {
		m.names, m.fresh, m.left, m.cells = nil, 0, 2+m.next(14), m.next(2) == 0
		var params []string
		for range m.next(5) {
			params = append(params, m.name())
			m.names = append(m.names, "number "+params[len(params)-1])
		}
		text := "op o(" + strings.Join(params, ",") + "){"
		for range max(0, m.next(5)-2) {
			text += "need " + m.expr(true, 2) + ";"
		}
		for range m.next(6) {
			text += m.stmt(3)
		}
		if m.next(3) == 0 {
			text += "give " + m.expr(false, 2) + ";"
		}
		if text += "}"; len(text) <= 480 {
			return text
		}
	}
}

// held holds what Check answers of a definition against the second reading.
func held(t *testing.T, d api.Def) outcome {
	t.Helper()
	got, want := checked(t, d), modelled(d)
	if got != want {
		t.Errorf("%q: %+v, want %+v", parse.Print(d), got, want)
	}
	return got
}

func TestDrawnOperations(t *testing.T) {
	codes := map[api.Errno]int{}
	infos := map[api.Info]int{}
	for _, wrong := range []int{20, 60, 200, 1000000} {
		m := maker{draw: draw(wrong), wrong: wrong}
		for range 5000 {
			got := held(t, parsed(t, m.operation()))
			codes[got.fault.Code]++
			infos[api.Info{Mode: got.info.Mode, Turns: got.info.Turns}]++
		}
	}
	for _, code := range []api.Errno{0, api.ErrName, api.ErrType, api.ErrSteps} {
		if codes[code] < 200 {
			t.Error(codes)
		}
	}
	// All three modes, turned or not; what adds can be turned always.
	if len(infos) != 6 {
		t.Error(infos)
	}
}

// Loops of both kinds, on drawn operations.
func TestDrawnBacks(t *testing.T) {
	m := maker{draw: 3, wrong: 100}
	for range 4000 {
		d := parsed(t, m.operation())
		want := checked(t, d)
		d.Body = turnedLoops(d.Body)
		if got := held(t, d); got != want {
			t.Errorf("%q: %+v with SBack, want %+v", parse.Print(d), got, want)
		}
	}
}

// All short texts out of parts that tell: every order of names, types, loops and steps.
func TestAllShortOperations(t *testing.T) {
	parts := []string{"let a=1;", "let b=1<2;", "let a=b;", "[a]=1;", "if b{}", "for a in 0..2{}", "for b in 0..65{}", "if b{let a=1;}else{let c=a;}",
		"for c in 0..64{[c]+=a;}", "for d in 0..64{for e in 0..64{}}", "if a==b{}"}
	codes := map[api.Errno]int{}
	for _, one := range parts {
		for _, two := range parts {
			for _, three := range parts {
				for _, frame := range []string{"op o(){@}", "op o(a){@give a;}", "op o(b){need b<1;@give b;}"} {
					got := held(t, parsed(t, strings.Replace(frame, "@", one+two+three, 1)))
					codes[got.fault.Code]++
				}
			}
		}
	}
	if len(codes) != 4 {
		t.Error(codes)
	}
}

// Check answers the same again, whatever was asked between.
func TestSameAnswers(t *testing.T) {
	m := maker{draw: 5, wrong: 60}
	var list []api.Def
	var first []outcome
	for range 300 {
		list = append(list, parsed(t, m.operation()))
		first = append(first, checked(t, list[len(list)-1]))
	}
	for i := range list {
		other := list[len(list)-1-i]
		check.Calls(other)
		if got := checked(t, other); got != first[len(list)-1-i] {
			t.Errorf("%q: %+v, and then %+v", parse.Print(other), first[len(list)-1-i], got)
		}
	}
}
