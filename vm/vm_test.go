package vm_test

import (
	"math"
	"slices"
	"strconv"
	"strings"
	"testing"

	"palimpsest/api"
	"palimpsest/vm"
)

// The calls must have just these signatures: the layers above are built on them.
var (
	_ func(c api.Code) error                                           = vm.Check
	_ func(c api.Code, p api.Page, args ...int) (api.Page, int, error) = vm.Run
	_ func(c api.Code, p api.Page, args ...int) (int, error)           = vm.Steps
)

const (
	least    = math.MinInt
	greatest = math.MaxInt
)

// words is what instructions are called.
func words() []string {
	return strings.Fields("? push local keep cell set add sub swap do neg not jump zero loop need give")
}

// instrs is instructions by their words, with blanks or the sign ; between them. A number belongs to the word ahead of it.
func instrs(text string) []api.Instr {
	var all []api.Instr
	for _, part := range strings.Fields(strings.ReplaceAll(text, ";", " ")) {
		if n, err := strconv.Atoi(part); err == nil {
			all[len(all)-1].N = n
			continue
		}
		do := slices.Index(words(), part)
		if do < 1 {
			panic(part)
		}
		all = append(all, api.Instr{Do: do})
	}
	return all
}

// coded is a code with some parameters, with 8 locals, and its loops.
func coded(params int, text string, loops ...api.Loop) api.Code {
	return api.Code{Params: params, Locals: 8, Instrs: instrs(text), Loops: loops}
}

// listed is a code as a text.
func listed(c api.Code) string {
	if len(c.Instrs) > 200 {
		return strconv.Itoa(len(c.Instrs)) + " instructions"
	}
	text := strconv.Itoa(c.Params) + " " + strconv.Itoa(c.Locals) + ":"
	for _, i := range c.Instrs {
		word := "?" + strconv.Itoa(i.Do)
		if i.Do > 0 && i.Do < len(words()) {
			word = words()[i.Do]
		}
		text += " " + word + " " + strconv.Itoa(i.N) + ";"
	}
	for _, l := range c.Loops {
		text += " {" + strconv.Itoa(l.Local) + " " + strconv.Itoa(l.N) + " " + strconv.Itoa(l.From) + " " + strconv.Itoa(l.To) + "}"
	}
	return text
}

// paged is a page with values in some cells: a cell, its value, a cell, its value.
func paged(pairs ...int) api.Page {
	p := api.Page{Lsn: 4}
	for i := 0; i < len(pairs); i += 2 {
		p.Cells[pairs[i]] = pairs[i+1]
	}
	return p
}

// counted is a page whose cells are all different, and none 0: cell i has 100 + i.
func counted() api.Page {
	p := api.Page{Lsn: 4}
	for i := range p.Cells {
		p.Cells[i] = 100 + i
	}
	return p
}

// changed is that page with values in some cells.
func changed(pairs ...int) api.Page {
	p := counted()
	for i := 0; i < len(pairs); i += 2 {
		p.Cells[pairs[i]] = pairs[i+1]
	}
	return p
}

// outcome is what Run and Steps answer, as a value: an error of number 0 is none.
type outcome struct {
	page  api.Page
	n     int
	steps int
	err   api.Errno
}

// ran is what Run and Steps answer, and nothing beside an error. Both must answer the same errors, but for a need that isn't met.
func ran(t *testing.T, c api.Code, p api.Page, args ...int) outcome {
	t.Helper()
	given := slices.Clone(args)
	q, n, err := vm.Run(c, p, args...)
	steps, other := vm.Steps(c, p, args...)
	if !slices.Equal(given, args) {
		t.Errorf("%s: arguments %v became %v", listed(c), given, args)
	}
	if err == nil {
		if other != nil {
			t.Errorf("%s with %v: Steps answers %v", listed(c), args, other)
		}
		return outcome{page: q, n: n, steps: steps}
	}
	number, ok := err.(api.Errno)
	if !ok || number == 0 || q != (api.Page{}) || n != 0 {
		t.Errorf("%s with %v: %v, %d with %v", listed(c), args, q, n, err)
	}
	if number == api.ErrNeed && other != nil || number != api.ErrNeed && (other != err || steps != 0) {
		t.Errorf("%s with %v: Steps answers %d, %v, and Run %v", listed(c), args, steps, other, err)
	}
	return outcome{err: number, steps: steps}
}

// comes tells of a code that doesn't come to a page, or doesn't give a number, in so many steps.
func comes(t *testing.T, c api.Code, from, to api.Page, n, steps int, args ...int) {
	t.Helper()
	good(t, c)
	if got := ran(t, c, from, args...); got != (outcome{page: to, n: n, steps: steps}) {
		t.Errorf("%s with %v:\n%v, want\n%v, %d given, %d steps", listed(c), args, got, to, n, steps)
	}
}

// gives tells of instructions that don't give a number, behind which there is an IGive. Their parameters are the arguments.
func gives(t *testing.T, text string, n int, args ...int) {
	t.Helper()
	c := coded(len(args), text+"; give")
	comes(t, c, counted(), counted(), n, len(c.Instrs), args...)
}

// sets tells of instructions that don't come from the counted page to this one.
func sets(t *testing.T, text string, to api.Page, args ...int) {
	t.Helper()
	c := coded(len(args), text)
	comes(t, c, counted(), to, 0, len(c.Instrs), args...)
}

// good tells of codes that aren't good.
func good(t *testing.T, codes ...api.Code) {
	t.Helper()
	for _, c := range codes {
		if err := vm.Check(c); err != nil {
			t.Errorf("%s: %v", listed(c), err)
		}
	}
}

// bad tells of codes that are good, or are run all the same.
func bad(t *testing.T, codes ...api.Code) {
	t.Helper()
	for _, c := range codes {
		if err := vm.Check(c); err != api.ErrCode {
			t.Errorf("%s: %v", listed(c), err)
		}
		if got := ran(t, c, counted(), make([]int, max(0, min(c.Params, 99)))...); got != (outcome{err: api.ErrCode}) {
			t.Errorf("%s: %v", listed(c), got)
		}
	}
}

// P12.1: the chapter's examples

func TestExamples(t *testing.T) {
	c := coded(1, "local 0; push 2; do 1; push 3; add")
	comes(t, c, api.Page{}, api.Page{Cells: [60]int{6: 3}}, 0, 5, 4)
	bad(t, coded(0, "add"), coded(0, "jump 0"))
}

// P12.1: each instruction

func TestNothing(t *testing.T) {
	comes(t, api.Code{}, counted(), counted(), 0, 0)
	comes(t, api.Code{Params: 2, Locals: 2}, counted(), counted(), 0, 0, 7, 8)
}

func TestPush(t *testing.T) {
	for _, n := range []int{0, 1, -1, 7, least, greatest} {
		gives(t, "push "+strconv.Itoa(n), n)
	}
}

// The parameters are the first locals, the others are 0.
func TestLocals(t *testing.T) {
	for at := range 8 {
		gives(t, "local "+strconv.Itoa(at), 10+at, 10, 11, 12, 13, 14, 15, 16, 17)
		gives(t, "local "+strconv.Itoa(at), []int{least, greatest, 0, 0, 0, 0, 0, 0}[at], least, greatest)
		gives(t, "local "+strconv.Itoa(at), 0)
	}
	gives(t, "push 7; keep 0; local 0", 7)
	gives(t, "push 7; keep 0; local 1", 5, 4, 5)
	gives(t, "push 7; keep 1; push 8; keep 1; local 1", 8, 4, 5)
	gives(t, "local 0; keep 7; local 1; keep 0; local 7; keep 1; local 0; local 1; do 2", 1, 4, 5)
	c := api.Code{Params: 1, Locals: 64, Instrs: instrs("local 0; keep 63; local 62; local 63; do 2; give")}
	comes(t, c, counted(), counted(), -9, 6, 9)
}

func TestCells(t *testing.T) {
	for cell := range 60 {
		gives(t, "local 0; cell", 100+cell, cell)
	}
	for _, cell := range outside() {
		gives(t, "local 0; cell", 0, cell)
	}
	comes(t, coded(0, "push 3; cell; cell; give"), paged(3, 9, 9, 5), paged(3, 9, 9, 5), 5, 4)
}

// outside is numbers that no cell has. Some of them are cells' numbers in 32, 16 or 8 bits.
func outside() []int {
	return []int{-1, -2, -59, -60, 60, 61, 64, 127, 128, 255, 256, 1 << 16, 1<<16 + 3, 1 << 32, 1<<32 + 3, -1 << 32, 1 << 62, greatest, least, least + 3}
}

// The value is popped ahead of the index.
func TestChanges(t *testing.T) {
	for cell := range 60 {
		sets(t, "local 0; push -7; set", changed(cell, -7), cell)
		sets(t, "local 0; push -7; add", changed(cell, 93+cell), cell)
		sets(t, "local 0; push -7; sub", changed(cell, 107+cell), cell)
	}
	for _, cell := range outside() {
		sets(t, "local 0; push 7; set", counted(), cell)
		sets(t, "local 0; push 7; add", counted(), cell)
		sets(t, "local 0; push 7; sub", counted(), cell)
	}
	sets(t, "push 3; push 5; set; push 5; push 3; add", changed(3, 5, 5, 108))
	sets(t, "push 0; push 0; cell; push 1; do 1; set", changed(0, 101))
	// Numbers wrap around.
	for _, row := range []struct {
		word            string
		was, value, now int
	}{{"add", greatest, 1, least}, {"add", least, -1, greatest}, {"sub", least, 1, greatest}, {"sub", 0, least, least}, {"sub", -1, least, greatest}, {"add", least, least, 0}} {
		comes(t, coded(1, "push 5; local 0; "+row.word), paged(5, row.was), paged(5, row.now), 0, 3, row.value)
	}
}

func TestSwap(t *testing.T) {
	for _, two := range [][2]int{{0, 59}, {59, 0}, {3, 4}, {17, 17}} {
		sets(t, "local 0; local 1; swap", changed(two[0], 100+two[1], two[1], 100+two[0]), two[0], two[1])
	}
	for _, cell := range outside() {
		sets(t, "local 0; push 3; swap", counted(), cell)
		sets(t, "push 3; local 0; swap", counted(), cell)
		sets(t, "local 0; local 0; swap", counted(), cell)
	}
}

// edges is numbers near 0, near the cells' ends, and at the ends of 64 bits.
func edges() []int {
	return []int{0, 1, -1, 2, -2, 3, -3, 7, 10, 57, 58, 59, 60, 61, -59, -60, 1 << 31, 1 << 32, 1 << 62, -1 << 62, greatest, greatest - 1, least, least + 1}
}

// The right is popped ahead of the left.
func TestOperators(t *testing.T) {
	do := func(number, a, b, want int) {
		t.Helper()
		gives(t, "local 0; local 1; do "+strconv.Itoa(number), want, a, b)
	}
	for _, a := range edges() {
		for _, b := range edges() {
			do(1, a, b, a+b)
			do(2, a, b, a-b)
			do(3, a, b, a*b)
			if b != 0 {
				do(4, a, b, a/b)
				do(5, a, b, a%b)
			}
			do(6, a, b, truth(a < b))
			do(7, a, b, truth(a <= b))
			do(8, a, b, truth(a > b))
			do(9, a, b, truth(a >= b))
			do(10, a, b, truth(a == b))
			do(11, a, b, truth(a != b))
			do(12, a, b, truth(a != 0 && b != 0))
			do(13, a, b, truth(a != 0 || b != 0))
		}
		do(4, a, 0, 0)
		do(5, a, 0, 0)
	}
	do(2, 7, 2, 5)
	do(4, -7, 2, -3)
	do(5, -7, 2, -1)
	do(4, least, -1, least)
	do(5, least, -1, 0)
	do(3, 1<<32, 1<<31, least)
	do(1, greatest, 1, least)
	do(6, least, greatest, 1)
	do(12, 4, 2, 1)
	do(13, 0, -8, 1)
	do(10, 4, 2, 0)
}

func truth(yes bool) int {
	if yes {
		return 1
	}
	return 0
}

// 0 alone is false, and a truth that is made is 1 or 0.
func TestNegAndNot(t *testing.T) {
	for _, n := range edges() {
		gives(t, "local 0; neg", -n, n)
		gives(t, "local 0; not", truth(n == 0), n)
		gives(t, "local 0; not; not", truth(n != 0), n)
	}
}

func TestJumps(t *testing.T) {
	comes(t, coded(0, "jump 3; push 7; give"), counted(), counted(), 0, 1)
	comes(t, coded(0, "push 1; give; jump 5; push 7; give"), counted(), counted(), 1, 3)
	comes(t, coded(0, "jump 1; jump 3; jump 3; push 7; give"), counted(), counted(), 7, 4)
	// The stack stays as it is.
	comes(t, coded(0, "push 7; jump 2; give"), counted(), counted(), 7, 3)
	for _, n := range edges() {
		c := coded(1, "local 0; zero 5; push 1; give; jump 7; push 2; give")
		if n == 0 {
			comes(t, c, counted(), counted(), 2, 4, n)
		} else {
			comes(t, c, counted(), counted(), 1, 5, n)
		}
		comes(t, coded(1, "local 0; zero 2"), counted(), counted(), 0, 2, n)
		comes(t, coded(1, "push 5; local 0; zero 4; neg; give"), counted(), counted(), 5-10*truth(n != 0), 4+truth(n != 0), n)
	}
}

func TestNeeds(t *testing.T) {
	for _, n := range edges() {
		c := coded(1, "push 3; push 8; set; local 0; need; push 5; give")
		if n != 0 {
			comes(t, c, counted(), changed(3, 8), 5, 7, n)
		} else if got := ran(t, c, counted(), n); got != (outcome{err: api.ErrNeed, steps: 5}) {
			t.Error(got)
		}
	}
	// Of several needs one that isn't met is enough. It is the last instruction that is done, and counts.
	for at := range 4 {
		args := []int{1, 1, 1, 1}
		args[at] = 0
		if got := ran(t, coded(4, "local 0; need; local 1; need; local 2; need; local 3; need; push 7; give"), counted(), args...); got != (outcome{err: api.ErrNeed, steps: 2*at + 2}) {
			t.Error(got)
		}
	}
	comes(t, coded(0, "jump 3; push 0; need"), counted(), counted(), 0, 1)
	// A need within a loop: it isn't met in the third round.
	c := coded(0, "push 0; keep 0; push 0; push 1; add; local 0; push 2; do 2; need; loop 0", api.Loop{N: 5, From: 2, To: 9})
	if got := ran(t, c, counted()); got != (outcome{err: api.ErrNeed, steps: 2 + 8 + 8 + 7}) {
		t.Error(got)
	}
}

// What was given last is given; 0, if nothing was.
func TestGives(t *testing.T) {
	gives(t, "push 1; give; push 2", 2)
	gives(t, "push 1; give; push 2; give; push 0", 0)
	comes(t, coded(1, "push 1; give; local 0; zero 6; push 2; give"), counted(), counted(), 1, 4, 0)
	comes(t, coded(1, "push 1; give; local 0; zero 6; push 2; give"), counted(), counted(), 2, 6, 9)
	comes(t, coded(0, "push 3; push 8; set; push 3; cell; give; push 3; push 9; set"), counted(), changed(3, 9), 8, 9)
}

// P12.1: loops

func TestLoops(t *testing.T) {
	for _, n := range []int{1, 2, 3, 63, 64} {
		empty := coded(0, "push 0; keep 3; loop 0; local 3; give", api.Loop{Local: 3, N: n, From: 2, To: 2})
		comes(t, empty, counted(), counted(), n, 2+n+2)
		sums := coded(0, "push 0; keep 3; push 0; local 3; add; push 1; push 1; add; loop 0", api.Loop{Local: 3, N: n, From: 2, To: 8})
		comes(t, sums, paged(), paged(0, n*(n-1)/2, 1, n), 0, 2+7*n)
	}
	// One behind the other, with one local.
	two := coded(0, "push 0; keep 0; push 0; push 1; add; loop 0; push 0; keep 0; push 1; local 0; add; loop 1", api.Loop{N: 4, From: 2, To: 5}, api.Loop{N: 5, From: 8, To: 11})
	comes(t, two, paged(), paged(0, 4, 1, 10), 0, 2+4*4+2+4*5)
	// The numbers of the loops needn't be in the order of their places.
	two = coded(0, "push 0; keep 0; push 0; push 1; add; loop 1; push 0; keep 0; push 1; local 0; add; loop 0", api.Loop{N: 5, From: 8, To: 11}, api.Loop{N: 4, From: 2, To: 5})
	comes(t, two, paged(), paged(0, 4, 1, 10), 0, 2+4*4+2+4*5)
}

func TestLoopsInLoops(t *testing.T) {
	// The cell becomes 8 times itself and a round's number, of the two loops.
	const body = "push 0; push 0; cell; push 8; do 3; local 0; push 3; do 3; local 1; do 1; do 1; set"
	c := coded(0, "push 0; keep 0; push 0; keep 1; "+body+"; loop 1; loop 0", api.Loop{Local: 0, N: 2, From: 2, To: 17}, api.Loop{Local: 1, N: 3, From: 4, To: 16})
	comes(t, c, paged(), paged(0, 0o012345), 0, 2+2*(2+13*3+1))
	// Two within one, of which the second has the local of the first.
	c = coded(0, "push 0; keep 0; push 0; keep 1; push 0; push 1; add; loop 0; push 0; keep 1; push 1; local 1; add; loop 1; loop 2",
		api.Loop{Local: 1, N: 3, From: 4, To: 7}, api.Loop{Local: 1, N: 4, From: 10, To: 13}, api.Loop{Local: 0, N: 5, From: 2, To: 14})
	comes(t, c, paged(), paged(0, 15, 1, 30), 0, 2+5*(2+3*4+2+4*4+1))
	// Three deep.
	c = coded(0, "push 0; keep 0; push 0; keep 1; push 0; keep 2; push 9; push 1; add; loop 0; loop 1; loop 2",
		api.Loop{Local: 2, N: 4, From: 6, To: 9}, api.Loop{Local: 1, N: 3, From: 4, To: 10}, api.Loop{Local: 0, N: 2, From: 2, To: 11})
	comes(t, c, paged(), paged(9, 24), 0, 2+2*(2+3*(2+4*4+1)+1))
}

// The local of a loop may be a parameter, may be kept ahead of the loop and behind it, and asked in it.
func TestLocalsOfLoops(t *testing.T) {
	c := coded(1, "push 50; keep 0; push 0; keep 0; push 1; local 0; add; loop 0; push 7; local 0; do 1; keep 0; local 0; give", api.Loop{N: 3, From: 4, To: 7})
	comes(t, c, paged(), paged(1, 3), 10, 4+12+6, 99)
	// A loop that is run a second time, by one around it, begins with 0 again.
	c = coded(0, "push 0; keep 1; push 0; keep 0; loop 0; push 1; local 0; add; loop 1", api.Loop{Local: 0, N: 2, From: 4, To: 4}, api.Loop{Local: 1, N: 3, From: 2, To: 8})
	comes(t, c, paged(), paged(1, 6), 0, 2+3*(2+2+3+1))
}

// Jumps within a loop: to its ILoop, which ends the round, and over one within it.
func TestJumpsInLoops(t *testing.T) {
	c := coded(1, "push 0; keep 1; local 1; local 0; do 6; zero 9; push 0; push 1; add; loop 0", api.Loop{Local: 1, N: 6, From: 2, To: 9})
	for n := range 7 {
		comes(t, c, paged(), paged(0, n), 0, 2+5*6+3*n, n)
	}
	c = coded(1, "push 0; keep 1; local 0; zero 9; push 0; keep 2; push 3; give; loop 1; loop 0", api.Loop{Local: 1, N: 6, From: 2, To: 9}, api.Loop{Local: 2, N: 2, From: 6, To: 8})
	comes(t, c, paged(), paged(), 0, 2+6*3, 0)
	comes(t, c, paged(), paged(), 3, 2+6*(2+2+6+1), 1)
	// Over a whole loop, and to what sets its local.
	c = coded(1, "local 0; zero 8; jump 3; push 0; keep 1; push 4; give; loop 0; local 1; give", api.Loop{Local: 1, N: 2, From: 5, To: 7})
	comes(t, c, paged(), paged(), 0, 4, 0)
	comes(t, c, paged(), paged(), 2, 3+2+6+2, 1)
}

// Locals, the stack and what is given begin anew in each run.
func TestRunsBeginAnew(t *testing.T) {
	c := coded(1, "local 5; push 1; do 1; keep 5; local 0; zero 8; local 5; give")
	for range 3 {
		comes(t, c, counted(), counted(), 1, 8, 1)
		comes(t, c, counted(), counted(), 0, 6, 0)
	}
}

// The page's number stays, whatever the cells become.
func TestLsn(t *testing.T) {
	for _, lsn := range []int{0, 1, -1, least, greatest} {
		p := counted()
		p.Lsn = lsn
		q, _, err := vm.Run(coded(0, "push 3; push 8; set"), p)
		if p.Cells[3] = 8; q != p || err != nil {
			t.Error(q, err)
		}
	}
}

// P12.1: errors, and which of them comes first

func TestErrors(t *testing.T) {
	unmet := coded(2, "push 0; need")
	for _, args := range [][]int{nil, {1}, {1, 2, 3}, make([]int, 1000)} {
		// ErrForm ahead of ErrNeed.
		if got := ran(t, unmet, counted(), args...); got != (outcome{err: api.ErrForm}) {
			t.Error(args, got)
		}
		// ErrCode ahead of ErrForm.
		if got := ran(t, coded(2, "push 0; need; push 1"), counted(), args...); got != (outcome{err: api.ErrCode}) {
			t.Error(args, got)
		}
	}
	if got := ran(t, unmet, counted(), 1, 2); got != (outcome{err: api.ErrNeed, steps: 2}) {
		t.Error(got)
	}
	if got := ran(t, api.Code{}, counted(), 1); got != (outcome{err: api.ErrForm}) {
		t.Error(got)
	}
	if got := ran(t, api.Code{Params: -1}, counted()); got != (outcome{err: api.ErrCode}) {
		t.Error(got)
	}
	for params := range 9 {
		c := api.Code{Params: params, Locals: params}
		for count := range 11 {
			want := outcome{page: counted()}
			if count != params {
				want = outcome{err: api.ErrForm}
			}
			if got := ran(t, c, counted(), make([]int, count)...); got != want {
				t.Error(params, count, got)
			}
		}
	}
}
