package op_test

import (
	"slices"
	"strconv"
	"sync"
	"testing"

	"palimpsest/api"
	"palimpsest/code"
	"palimpsest/eval"
	"palimpsest/invert"
	"palimpsest/op"
	"palimpsest/vm"
)

// outcome is what Run or Undo answers, as a value.
type outcome struct {
	page api.Page
	n    int
	err  api.Fault
}

// ran is what a Run answers.
func ran(o *op.Ops, id int, p api.Page, args ...int) outcome {
	q, n, err := o.Run(id, p, args...)
	return outcome{q, n, told(err)}
}

// undone is what an Undo answers.
func undone(o *op.Ops, id int, p api.Page, args ...int) outcome {
	q, err := o.Undo(id, p, args...)
	return outcome{page: q, err: told(err)}
}

// runOf is what a Run must answer, by the definition.
func runOf(d api.Def, p api.Page, args ...int) outcome {
	q, n, err := eval.Run(d, p, args...)
	return outcome{q, n, told(err)}
}

// undoOf is what an Undo must answer, by the turned definition.
func undoOf(d api.Def, p api.Page, args ...int) outcome {
	u, err := invert.Turn(d)
	if err != nil {
		return outcome{err: told(err)}
	}
	q, _, err := eval.Run(u, p, args...)
	return outcome{page: q, err: told(err)}
}

// isRun holds a Run, an Undo of what it came to, and an Undo without one, against the definition. It answers what the Run did.
func isRun(t *testing.T, o *op.Ops, id int, p api.Page, args ...int) outcome {
	t.Helper()
	text, _ := o.Text(id)
	d := parsed(t, text)
	info := checkedInfo(t, d)
	before, count := o.Runs(id), 1
	got := ran(o, id, p, args...)
	if want := runOf(d, p, args...); got != want {
		t.Errorf("Run of %q with %v on %v:\n%v, want\n%v", text, args, p, got, want)
	}
	for _, from := range []api.Page{p, got.page} {
		back := undone(o, id, from, args...)
		if want := undoOf(d, from, args...); back != want {
			t.Errorf("Undo of %q with %v on %v:\n%v, want\n%v", text, args, from, back, want)
		}
		if info.Turns {
			count++
		} else if back != (outcome{err: errno(api.ErrCode)}) {
			t.Errorf("Undo of %q: %v", text, back)
		}
		if from == got.page && info.Turns && got.err == (api.Fault{}) && back != (outcome{page: p}) {
			t.Errorf("Undo of %q with %v: %v isn't undone, but becomes %v", text, args, from, back)
		}
	}
	if after := o.Runs(id); after != before+count {
		t.Errorf("Runs of %q: %d behind %d and %d calls", text, after, before, count)
	}
	return got
}

// P13.1: numbers by hand

func TestRunAndUndo(t *testing.T) {
	o := formatted(t, device(t, 16), 0)
	defined(t, o, "op move(i, k, v) { need v > 0; [i] -= v; [k] += v; give v * 2; }", "op put(i, v) { [i] = v; give [i]; }", "op see() { give 7; }")
	p := counted()
	q := p
	q.Cells[3] -= 5
	q.Cells[60-1] += 5
	if got := ran(o, 1, p, 3, 59, 5); got != (outcome{page: q, n: 10}) {
		t.Error(got)
	}
	if got := undone(o, 1, q, 3, 59, 5); got != (outcome{page: p}) {
		t.Error(got)
	}
	if got := ran(o, 1, p, 3, 59, 0); got != (outcome{err: errno(api.ErrNeed)}) {
		t.Error(got)
	}
	// A turned operation has no needs.
	if got := undone(o, 1, p, 3, 59, 0); got != (outcome{page: p}) {
		t.Error(got)
	}
	q = p
	q.Cells[0] = -1
	if got := ran(o, 2, p, 0, -1); got != (outcome{page: q, n: -1}) {
		t.Error(got)
	}
	if got := undone(o, 2, q, 0, -1); got != (outcome{err: errno(api.ErrCode)}) {
		t.Error(got)
	}
	if got := ran(o, 3, p); got != (outcome{page: p, n: 7}) {
		t.Error(got)
	}
	if got := undone(o, 3, p); got != (outcome{page: p}) {
		t.Error(got)
	}
	for id, want := range []int{0, 4, 1, 2, 0} {
		if got := o.Runs(id); got != want {
			t.Errorf("Runs(%d): %d, want %d", id, got, want)
		}
	}
}

// P13.1: what Runs counts: every call, but for those that answer ErrCode

func TestRunsAreCounted(t *testing.T) {
	d := device(t, 16)
	o := formatted(t, d, 0)
	defined(t, o, "op add(i, v) { need v != 0; [i] += v; }", "op put(i, v) { need v != 0; [i] = v; }", "op other(i, v) { [i] += v; }")
	add, put := 0, 0
	is := func() {
		t.Helper()
		if o.Runs(1) != add || o.Runs(2) != put || o.Runs(3) != 0 {
			t.Errorf("Runs: %d, %d, %d, want %d, %d, 0", o.Runs(1), o.Runs(2), o.Runs(3), add, put)
		}
	}
	is()
	for range 3 {
		for _, c := range []struct {
			args []int
			run  api.Errno
			undo api.Errno
		}{{[]int{3, 4}, 0, 0}, {[]int{3, 0}, api.ErrNeed, 0}, {nil, api.ErrForm, api.ErrForm}, {[]int{3}, api.ErrForm, api.ErrForm}, {[]int{3, 4, 5}, api.ErrForm, api.ErrForm}} {
			_, _, err := o.Run(1, api.Page{}, c.args...)
			answers(t, "Run", err, c.run)
			add++
			is()
			_, err = o.Undo(1, api.Page{}, c.args...)
			answers(t, "Undo", err, c.undo)
			add++
			is()
			_, _, err = o.Run(2, api.Page{}, c.args...)
			answers(t, "Run", err, c.run)
			put++
			is()
			_, err = o.Undo(2, api.Page{}, c.args...)
			answers(t, "Undo", err, api.ErrCode)
			is()
		}
		isNone(t, o, 0)
		isNone(t, o, 4)
		isNone(t, o, -1)
		is()
	}
	undefined(t, d, o, "op add() { }", errno(api.ErrThere))
	is()
	defined(t, o, "op more() { }")
	is()
	powerless(t, d)
	is()
	d.Crash()
	is()
	o, add, put = opened(t, d, 0), 0, 0
	is()
}

// branched is an operation of so many branches, each with two loops that turn round just below MaxSteps rounds. The steps of an operation
// are those of its longest branch, but a code's are those of all of them, and the turned one's are more.
func branched(count int) string {
	const names = "abcdefghijklmnopqrstuvwxyz"
	loops := func(i int) string {
		return "for " + names[2*i:2*i+1] + " in 0..64{for " + names[2*i+1:2*i+2] + " in 0..29{}}"
	}
	text := loops(count - 1)
	for i := count - 2; i >= 0; i-- {
		text = "if true{" + loops(i) + "}else{" + text + "}"
	}
	return "op f(){" + text + "}"
}

// P13.1: a call whose code the machine refuses answers ErrCode, too, and isn't counted
func TestRefusedCodesAreNotCounted(t *testing.T) {
	refused, taken := 0, 0
	for count := 1; count <= 8; count++ {
		d := device(t, 16)
		text := branched(count)
		u, err := invert.Turn(parsed(t, text))
		if err != nil {
			t.Fatal(err)
		}
		c, err := code.Compile(u)
		if err != nil {
			t.Fatal(err)
		}
		good := vm.Check(c) == nil
		o := formatted(t, d, 0)
		defined(t, o, text)
		for _, o := range []*op.Ops{o, opened(t, d, 0)} {
			runs := 0
			is := func(what string, err error, want api.Errno) {
				t.Helper()
				answers(t, what, err, want)
				if want != api.ErrCode {
					runs++
				}
				if got := o.Runs(1); got != runs {
					t.Fatalf("%d branches: Runs behind %s that answered %v: %d, want %d", count, what, err, got, runs)
				}
			}
			for range 2 {
				_, _, err := o.Run(1, counted())
				is("Run", err, 0)
				_, _, err = o.Run(1, counted(), 5)
				is("Run", err, api.ErrForm)
				if good {
					is("Undo", undoes(o, counted()), 0)
					is("Undo", undoes(o, counted(), 5), api.ErrForm)
					taken++
					continue
				}
				is("Undo", undoes(o, counted()), api.ErrCode)
				is("Undo", undoes(o, counted(), 5), api.ErrCode)
				refused++
			}
		}
	}
	if refused == 0 || taken == 0 {
		t.Error(refused, taken)
	}
}

// undoes is the error of an Undo of operation 1.
func undoes(o *op.Ops, p api.Page, args ...int) error {
	_, err := o.Undo(1, p, args...)
	return err
}

// P13.1: neither power nor crashes matter for runs
func TestRunsNeedNoPower(t *testing.T) {
	d := device(t, 16)
	o := formatted(t, d, 0)
	defined(t, o, texts()...)
	powerless(t, d)
	steps := d.Steps()
	for id := range 18 {
		args := slices.Repeat([]int{2}, o.Params(id))
		if id < 1 || id > 16 {
			isNone(t, o, id)
			continue
		}
		isRun(t, o, id, counted(), args...)
	}
	holds(t, o, texts()...)
	if d.Steps() != steps || !d.Down() {
		t.Error("runs make steps")
	}
}

// P13.3: ordinary operations, with every numbers
func TestRunsOfTexts(t *testing.T) {
	d := device(t, 16)
	o := formatted(t, d, 0)
	defined(t, o, texts()...)
	for _, o := range []*op.Ops{o, opened(t, d, 0)} {
		for id := 1; id <= 16; id++ {
			for _, i := range edges() {
				for _, v := range edges() {
					args := make([]int, o.Params(id))
					for k := range args {
						args[k] = []int{i, v}[k%2]
					}
					isRun(t, o, id, counted(), args...)
				}
			}
			for count := range 10 {
				isRun(t, o, id, counted(), slices.Repeat([]int{1}, count)...)
			}
		}
	}
}

// P13.3: drawn operations, of which some can be turned round
func TestRunsOfDrawnOperations(t *testing.T) {
	m := maker{draw: 13}
	turns, changed, unmet, gave := 0, 0, 0, 0
	for range 100 {
		d := device(t, 16)
		o := formatted(t, d, 0)
		for i := range 16 {
			defined(t, o, m.operation("o"+strconv.Itoa(i), i%2 == 0))
		}
		for _, o := range []*op.Ops{o, opened(t, d, 0)} {
			for id := 1; id <= 16; id++ {
				p := m.page()
				got := isRun(t, o, id, p, m.args(o.Params(id))...)
				if info, _ := o.Info(id); info.Turns {
					turns++
				}
				switch {
				case got.err.Code == api.ErrNeed:
					unmet++
				case got.page != p:
					changed++
				}
				if got.n != 0 {
					gave++
				}
			}
		}
	}
	if turns < 1500 || changed < 1000 || unmet < 200 || gave < 400 {
		t.Error(turns, changed, unmet, gave)
	}
}

// P13.3: many undone, the last one first
func TestManyRunsAreUndone(t *testing.T) {
	m := maker{draw: 133}
	o := formatted(t, device(t, 16), 0)
	for i := range 16 {
		text := m.operation("o"+strconv.Itoa(i), true)
		for !checkedInfo(t, parsed(t, text)).Turns {
			text = m.operation("o"+strconv.Itoa(i), true)
		}
		defined(t, o, text)
	}
	type done struct {
		id     int
		args   []int
		before api.Page
	}
	for range 200 {
		p, list := m.page(), []done(nil)
		for range 30 {
			id := 1 + m.next(16)
			args := m.args(o.Params(id))
			if got := ran(o, id, p, args...); got.err == (api.Fault{}) {
				list = append(list, done{id, args, p})
				p = got.page
			}
		}
		for _, x := range slices.Backward(list) {
			got := undone(o, x.id, p, x.args...)
			if got != (outcome{page: x.before}) {
				t.Fatal(x, got)
			}
			p = got.page
		}
	}
}

// P13.3: what has no step to undo is undone, too
func TestUndoOfWhatOnlyReads(t *testing.T) {
	o := formatted(t, device(t, 16), 0)
	defined(t, o, "op get(i) { give [i]; }", "op need_it(i) { need [i] > 5; give 1; }", "op let_it(i) { let a = [i]; give a; }")
	isRun(t, o, 1, counted(), 5)
	isRun(t, o, 2, counted(), 5)
	isRun(t, o, 3, counted(), 5)
	if got := undone(o, 1, counted(), 5); got != (outcome{page: counted()}) {
		t.Error(got)
	}
	if got := undone(o, 2, counted(), -5); got != (outcome{page: counted()}) {
		t.Error(got)
	}
	if got := undone(o, 3, counted(), 5); got != (outcome{err: errno(api.ErrCode)}) {
		t.Error(got)
	}
}

// P13.1 and P13.3: an operation that many run at one time, also for the first time, is run and counted as often
func TestRunsAtOneTime(t *testing.T) {
	const many, rounds = 16, 50
	for range 20 {
		o := formatted(t, device(t, 16), 0)
		defined(t, o, "op grow(i, v) { for k in 0..4 { [i + k] += v * k; } give v; }", "op put(i, v) { [i] = v; }")
		wrong := make([]int, many)
		var all sync.WaitGroup
		for w := range many {
			all.Go(func() {
				for r := range rounds {
					p := counted()
					got := ran(o, 1, p, w, r)
					back := undone(o, 1, got.page, w, r)
					if got.n != r || got.page.Cells[w+3] != 100+w+3+3*r || back != (outcome{page: p}) {
						wrong[w]++
					}
					if undone(o, 2, p, w, r).err != errno(api.ErrCode) || ran(o, 2, p, w).err != errno(api.ErrForm) {
						wrong[w]++
					}
				}
			})
		}
		all.Wait()
		if slices.Max(wrong) > 0 || o.Runs(1) != 2*many*rounds || o.Runs(2) != many*rounds {
			t.Error(wrong, o.Runs(1), o.Runs(2))
		}
	}
}
