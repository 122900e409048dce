package eval_test

import (
	"testing"

	"palimpsest/api"
	"palimpsest/check"
	"palimpsest/eval"
	"palimpsest/parse"
)

// P9.2: what only reads changes no cell

func TestReadersChangeNothing(t *testing.T) {
	for _, text := range []string{
		"op o(a,b){}", "op o(a,b){give [a];}", "op o(a,b){need a<b;give [a]+[b];}", "op o(a,b){let c=[a];let d=c==b;if d{let e=[c];}else{let f=[b];}give -c;}",
		"op o(a,b){for i in 0..60{let c=[i]*[a];if c>b{}}give [59];}", "op o(a,b){for i in 0..0{[a]=b;}give [[[0]]];}", "op o(a,b){if false{[a]<>[b];[a]+=b;}}",
	} {
		d := parsed(t, text)
		for _, a := range edges() {
			for _, b := range edges() {
				if got := ran(t, d, counted(), a, b); got.err == 0 && got.page != counted() {
					t.Errorf("%q with %d, %d: %v", text, a, b, got.page)
				}
			}
		}
	}
}

func TestDrawnReaders(t *testing.T) {
	m := maker{draw: 92}
	for range 1500 {
		m.cells = m.next(4) > 0
		d := m.operation(t)
		if info, _ := check.Check(d); info.Mode != api.Reads {
			t.Fatalf("%q: %+v", parse.Print(d), info)
		}
		p := m.page()
		if got := held(t, d, p, m.args(len(d.Params))); got.err == 0 && got.page != p {
			t.Errorf("%q: %v, was %v", parse.Print(d), got.page, p)
		}
	}
}

// P9.2: what is refused changes no cell, neither of the page that is handed in nor of what a later run finds

func TestRefusedChangesNothing(t *testing.T) {
	p := counted()
	for _, row := range []struct {
		text string
		code api.Errno
		args []int
	}{
		{"op o(a){need a>0;need [a]==0;[a]=1;give [a];}", api.ErrNeed, []int{5}},
		{"op o(a){need a>0;[a]=1;give [a];}", api.ErrForm, []int{5, 6}},
		{"op o(a){need a>0;[a]=1;give [a];}", api.ErrForm, nil},
		{"op o(a){need a>0;[a]=1;give x;}", api.ErrCode, []int{5}},
		{"op o(a){[a]=1;[a]<>[x];}", api.ErrCode, []int{5, 6}},
	} {
		refused(t, row.text, p, row.code, row.args...)
		gives(t, "op o(a){give [a];}", p, 105, 5)
	}
	if p != counted() {
		t.Error(p)
	}
}

// P9.3: what adds comes to the same cells in any order

// orders is all orders of so many things.
func orders(count int) [][]int {
	if count == 0 {
		return [][]int{nil}
	}
	var all [][]int
	for _, rest := range orders(count - 1) {
		for at := range count {
			order := append(append(append([]int{}, rest[:at]...), count-1), rest[at:]...)
			all = append(all, order)
		}
	}
	return all
}

// call is an operation and the numbers that it is run with.
type call struct {
	d    api.Def
	args []int
}

// row is what calls come to, one behind the other, and what each of them answers beside its page.
func row(t *testing.T, p api.Page, calls []call, order []int) (api.Page, []outcome) {
	t.Helper()
	told := make([]outcome, len(calls))
	for _, i := range order {
		got := ran(t, calls[i].d, p, calls[i].args...)
		if got.err == 0 {
			p = got.page
		}
		told[i] = outcome{n: got.n, err: got.err}
	}
	return p, told
}

// anyOrder tells of calls that come to other cells in another order, or are answered otherwise; and answers what they come to.
func anyOrder(t *testing.T, p api.Page, calls ...call) api.Page {
	t.Helper()
	var to api.Page
	var told []outcome
	for i, order := range orders(len(calls)) {
		got, answers := row(t, p, calls, order)
		if i == 0 {
			to, told = got, answers
		}
		for k := range calls {
			if got != to || answers[k] != told[k] {
				t.Errorf("%q in order %v: %v, was %v; %v, was %v", parse.Print(calls[k].d), order, got, to, answers[k], told[k])
			}
		}
	}
	return to
}

func TestAddersInAnyOrder(t *testing.T) {
	add := parsed(t, "op add(i,v){need i<60;[i]+=v;give v;}")
	take := parsed(t, "op take(i,v){[i]-=v;[i+1]+=v;}")
	each := parsed(t, "op each(n){for i in 0..60{if i%2==0{[i]+=n*i;}else{[i]-=n;}}give n;}")
	p := counted()
	for _, i := range []int{0, 3, 58, 59, 60, -1, least} {
		for _, v := range []int{1, -7, greatest, least} {
			anyOrder(t, p, call{add, []int{i, v}}, call{take, []int{3, 5}}, call{each, []int{v}}, call{add, []int{3, -v}})
		}
	}
	if got := anyOrder(t, paged(3, 1), call{add, []int{3, 5}}, call{take, []int{3, 2}}, call{add, []int{60, 7}}); got != paged(3, 4, 4, 2) {
		t.Error(got)
	}
	if got := anyOrder(t, api.Page{}, call{add, []int{0, greatest}}, call{add, []int{0, 1}}, call{add, []int{0, least}}); got != (api.Page{}) {
		t.Error(got)
	}
}

func TestDrawnAdders(t *testing.T) {
	m := maker{draw: 93, signs: []string{"+=", "-="}}
	shared := 0
	for range 700 {
		var calls []call
		for len(calls) < 4 {
			d := m.operation(t)
			if m.next(2) == 0 {
				d = back(d)
			}
			if info, _ := check.Check(d); info.Mode == api.Adds {
				calls = append(calls, call{d, m.args(len(d.Params))})
			}
		}
		p := m.page()
		to := anyOrder(t, p, calls...)
		one := ran(t, calls[0].d, p, calls[0].args...)
		if one.err == 0 && one.page != p && one.page != to {
			shared++
		}
	}
	if shared < 200 {
		t.Error(shared)
	}
}

// What a row of operations comes to hangs on the page and the numbers alone: run again it is the same.
func TestRunAgain(t *testing.T) {
	m := maker{draw: 94, signs: all(), cells: true}
	for range 300 {
		d := m.operation(t)
		p, args := m.page(), m.args(len(d.Params))
		first := ran(t, d, p, args...)
		eval.Run(parsed(t, "op o(a){[a]=a;[1]<>[2];}"), p, 3)
		if again := ran(t, d, p, args...); again != first {
			t.Errorf("%q: %v, then %v", parse.Print(d), first, again)
		}
	}
}
