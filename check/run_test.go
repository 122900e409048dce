package check_test

import (
	"reflect"
	"slices"
	"strconv"
	"strings"
	"testing"

	"palimpsest/api"
	"palimpsest/check"
	"palimpsest/parse"
)

// P8.2: what is checked takes no more steps than Steps

// A run does what a definition says, and counts its steps. Truths are 1 and 0.
type run struct {
	cells [60]int
	names map[string]int
	steps int
}

func truth(yes bool) int {
	if yes {
		return 1
	}
	return 0
}

func (r *run) expr(e api.Expr) int {
	r.steps++
	var parts []int
	for _, part := range e.Args {
		parts = append(parts, r.expr(part))
	}
	switch e.Kind {
	case api.ENumber:
		return e.Num
	case api.EName:
		if e.Name == "true" || e.Name == "false" {
			return truth(e.Name == "true")
		}
		return r.names[e.Name]
	case api.ECell:
		if parts[0] < 0 || parts[0] >= 60 {
			return 0
		}
		return r.cells[parts[0]]
	case api.ENot:
		return 1 - parts[0]
	case api.ENeg:
		return -parts[0]
	}
	return binary(e.Name, parts[0], parts[1])
}

func binary(sign string, a, b int) int {
	switch sign {
	case "+":
		return a + b
	case "-":
		return a - b
	case "*":
		return a * b
	case "<":
		return truth(a < b)
	case "<=":
		return truth(a <= b)
	case ">":
		return truth(a > b)
	case ">=":
		return truth(a >= b)
	case "==":
		return truth(a == b)
	case "!=":
		return truth(a != b)
	case "&&":
		return a * b
	case "||":
		return max(a, b)
	}
	if b == 0 {
		return 0
	}
	if sign == "/" {
		return a / b
	}
	return a % b
}

func (r *run) block(list []api.Stmt) {
	for _, s := range list {
		r.steps++
		r.stmt(s)
	}
}

func (r *run) stmt(s api.Stmt) {
	var parts []int
	for _, e := range s.Exprs {
		parts = append(parts, r.expr(e))
	}
	there := func(cell int) bool { return cell >= 0 && cell < 60 }
	switch s.Kind {
	case api.SLet:
		r.names[s.Name] = parts[0]
	case api.SIf:
		if parts[0] != 0 {
			r.block(s.Body)
		} else {
			r.block(s.Else)
		}
	case api.SFor:
		for i := range s.N {
			r.steps++
			r.names[s.Name] = i
			r.block(s.Body)
		}
	case api.SBack:
		for i := range s.N {
			r.steps++
			r.names[s.Name] = s.N - 1 - i
			r.block(s.Body)
		}
	case api.SSwap:
		if there(parts[0]) && there(parts[1]) {
			r.cells[parts[0]], r.cells[parts[1]] = r.cells[parts[1]], r.cells[parts[0]]
		}
	default:
		if there(parts[0]) {
			r.change(s.Kind, parts[0], parts[1])
		}
	}
}

func (r *run) change(kind, cell, value int) {
	switch kind {
	case api.SSet:
		r.cells[cell] = value
	case api.SAdd:
		r.cells[cell] += value
	case api.SSub:
		r.cells[cell] -= value
	}
}

// operation runs a definition, and tells whether its needs are met.
func (r *run) operation(d api.Def) bool {
	for _, e := range d.Needs {
		if r.expr(e) == 0 {
			return false
		}
	}
	r.block(d.Body)
	for _, e := range d.Give {
		r.expr(e)
	}
	return true
}

// ran is a run of a definition on drawn cells with drawn numbers.
func ran(m *draw, d api.Def) (*run, bool) {
	number := func() int { return []int{0, 1, 2, 59, 60, -1, 7, 1 << 62}[m.next(8)] }
	r := run{names: map[string]int{}}
	for i := range r.cells {
		r.cells[i] = number()
	}
	for _, name := range d.Params {
		r.names[name] = number()
	}
	return &r, r.operation(d)
}

func TestNoMoreStepsThanSteps(t *testing.T) {
	m := maker{draw: 11, wrong: 1000000}
	exact, fewer, checks := 0, 0, 0
	for checks < 3000 {
		d := parsed(t, m.operation())
		info, err := check.Check(d)
		if err != nil {
			continue
		}
		checks++
		if m.next(2) == 0 {
			d.Body = turnedLoops(d.Body)
		}
		for range 3 {
			r, whole := ran(&m.draw, d)
			if r.steps > info.Steps || whole && !chooses(d.Body) && r.steps != info.Steps {
				t.Errorf("%q: took %d steps, at most %d are told", parse.Print(d), r.steps, info.Steps)
			}
			if r.steps == info.Steps {
				exact++
			} else {
				fewer++
			}
		}
	}
	if exact < 1000 || fewer < 1000 {
		t.Error(exact, fewer)
	}
}

// chooses tells whether there is an if in a block; without one all runs take as many steps.
func chooses(list []api.Stmt) bool {
	return slices.ContainsFunc(list, func(s api.Stmt) bool { return s.Kind == api.SIf || chooses(s.Body) })
}

// An operation that takes all the steps that there may be, if its need is met and the greater block is run.
func TestTakesMostSteps(t *testing.T) {
	d := parsed(t, "op o(p){need p<60;for i in 0..30{if p<0{}else{for k in 0..15{[k]<>[i];}}}for n in 0..59{}give p*[0];}")
	if got := checked(t, d); got.info.Steps != 2048 {
		t.Error(got)
	}
	for p, want := range map[int]int{1: 2048, -1: 3 + 1 + 30*(1+1+3) + 60 + 4, 60: 3} {
		r := run{names: map[string]int{"p": p}}
		if r.operation(d); r.steps != want {
			t.Errorf("%d: %d steps, want %d", p, r.steps, want)
		}
	}
}

// P8.2: names' names don't matter

func renamedExprs(list []api.Expr, to func(name string) string) []api.Expr {
	var all []api.Expr
	for _, e := range list {
		if e.Kind == api.EName && e.Name != "true" && e.Name != "false" {
			e.Name = to(e.Name)
		}
		e.Args = renamedExprs(e.Args, to)
		all = append(all, e)
	}
	return all
}

func renamedStmts(list []api.Stmt, to func(name string) string) []api.Stmt {
	var all []api.Stmt
	for _, s := range list {
		if s.Kind == api.SLet || s.Kind == api.SFor {
			s.Name = to(s.Name)
		}
		s.Exprs, s.Body, s.Else = renamedExprs(s.Exprs, to), renamedStmts(s.Body, to), renamedStmts(s.Else, to)
		all = append(all, s)
	}
	return all
}

// renamed is a definition with other names, all of them, at the same places.
func renamed(d api.Def, to func(name string) string) api.Def {
	var params []string
	for _, name := range d.Params {
		params = append(params, to(name))
	}
	return api.Def{Name: to(d.Name), Params: params, Needs: renamedExprs(d.Needs, to), Body: renamedStmts(d.Body, to), Give: renamedExprs(d.Give, to)}
}

func TestOtherNames(t *testing.T) {
	renamings := []func(name string) string{
		func(name string) string { return "x" + name },
		func(name string) string { return name + strings.Repeat("_", 16-len(name)) },
		func(name string) string { return strings.ToUpper(name) },
		func(name string) string {
			// One name takes another one's place.
			n, _ := strconv.Atoi(strings.TrimPrefix(name, "n"))
			return "n" + strconv.Itoa(60-n)
		},
		func(name string) string {
			n, _ := strconv.Atoi(strings.TrimPrefix(name, "n"))
			return strings.Repeat("o", 1+n%16) + strings.Repeat("O", n/16)
		},
	}
	m := maker{draw: 13, wrong: 80}
	faults := 0
	for range 2000 {
		d := parsed(t, m.operation())
		want := checked(t, d)
		if want.fault.Code != 0 {
			faults++
		}
		for _, to := range renamings {
			other := renamed(d, to)
			if got := checked(t, other); got != want {
				t.Errorf("%q: %+v, but %q: %+v", parse.Print(d), want, parse.Print(other), got)
			}
		}
	}
	if faults < 200 || faults > 1800 {
		t.Error(faults)
	}
}

// The same texts but for names, with places.
func TestOtherNamesOfTexts(t *testing.T) {
	const text = "op NAME(A,B){need A<B;let C=A+1;if C<B{for D in 0..3{[D]+=C;}}else{let E=!true;if E{}}give A;}"
	want := good(t, text)
	for _, names := range []string{"name a b c d e", "a b c d e f", "f e d c b a", "i o need_ op_ in1 True", "NAME NAME A B C D", "A A NAME B C D"} {
		pairs := []string{}
		for i, name := range strings.Fields(names) {
			pairs = append(pairs, []string{"NAME", "A", "B", "C", "D", "E"}[i], name)
		}
		if got := good(t, strings.NewReplacer(pairs...).Replace(text)); got != want {
			t.Errorf("%s: %+v, want %+v", names, got, want)
		}
	}
}

// Rule 5: what is handed in is neither changed nor kept, its spare room included; an answer is new memory.
func TestKeepsNothing(t *testing.T) {
	text := "op o(a,b){need a<b;let c=a+1;if c<b{[a]+=b;}else{for i in 0..2{[i]=c;}}give a;}"
	d, same := parsed(t, text), parsed(t, text)
	d.Params = append(make([]string, 0, 9), "a", "b")
	d.Needs = append(make([]api.Expr, 0, 9), d.Needs...)
	d.Body = append(make([]api.Stmt, 0, 9), d.Body...)
	d.Give = append(make([]api.Expr, 0, 9), d.Give...)
	args := append(make([]int, 0, 9), 1, 2)
	first := checked(t, d)
	if err := check.Calls(d, args...); err != nil {
		t.Error(err)
	}
	for i, name := range d.Params[:9] {
		if name != []string{"a", "b", "", "", "", "", "", "", ""}[i] || args[:9][i] != []int{1, 2, 0, 0, 0, 0, 0, 0, 0}[i] {
			t.Error(i, name, args[:9])
		}
	}
	for i := 1; i < 9; i++ {
		if d.Needs[:9][i].Kind != 0 || d.Give[:9][i].Kind != 0 || i > 1 && d.Body[:9][i].Kind != 0 {
			t.Error("spare room", i)
		}
	}
	if !reflect.DeepEqual(d, same) {
		t.Errorf("%q, was %q", parse.Print(d), text)
	}
	d.Params[0] = "x"
	if got := checked(t, d); got.fault.Code != api.ErrName {
		t.Error(got)
	}
	d.Params[0] = "a"
	if got := checked(t, d); got != first {
		t.Error(got)
	}
	_, one := check.Check(api.Def{Params: []string{"a", "a"}})
	_, two := check.Check(api.Def{Params: []string{"a", "a"}})
	one.(*api.Fault).At = 7
	if *two.(*api.Fault) != (api.Fault{Code: api.ErrName}) {
		t.Error(two)
	}
}
