package code_test

import (
	"fmt"
	"slices"
	"strings"
	"testing"

	"palimpsest/api"
	"palimpsest/code"
)

// P11.1: the text of a code

// told tells of a code whose text isn't made of these lines.
func told(t *testing.T, c api.Code, lines ...string) {
	t.Helper()
	want := strings.Join(append(lines, ""), "\n")
	if got := code.Text(c); got != want {
		t.Errorf("%v: %q, want %q", c, got, want)
	}
}

// coded is a code with such instructions: of each its kind and its number.
func coded(pairs ...int) api.Code {
	var c api.Code
	for i := 0; i < len(pairs); i += 2 {
		c.Instrs = append(c.Instrs, api.Instr{Do: pairs[i], N: pairs[i+1]})
	}
	return c
}

func TestTextOfExamples(t *testing.T) {
	told(t, compiled(t, parsed(t, "op f(i) { [i + 1 * 2] += 3; }")), "0 local 0", "1 push 2", "2 do 1", "3 push 3", "4 add 0")
	told(t, compiled(t, parsed(t, "op g() { for i in 0..4 { [i] = 1; } }")), "0 push 0", "1 keep 0", "2 local 0", "3 push 1", "4 set 0", "5 loop 0")
}

func TestEachWord(t *testing.T) {
	told(t, coded(api.IPush, 10, api.ILocal, 11, api.IKeep, 12, api.ICell, 13, api.ISet, 14, api.IAdd, 15, api.ISub, 16, api.ISwap, 17, api.IDo, 18, api.INeg, 19, api.INot, 20,
		api.IJump, 21, api.IZero, 22, api.ILoop, 23, api.INeed, 24, api.IGive, 25),
		"0 push 10", "1 local 11", "2 keep 12", "3 cell 13", "4 set 14", "5 add 15", "6 sub 16", "7 swap 17", "8 do 18", "9 neg 19", "10 not 20", "11 jump 21", "12 zero 22", "13 loop 23",
		"14 need 24", "15 give 25")
	for do, word := range strings.Fields("? push local keep cell set add sub swap do neg not jump zero loop need give ?") {
		told(t, coded(do, 0), "0 "+word+" 0")
		told(t, coded(99, 1, do, 2, do, -3), "0 ? 1", "1 "+word+" 2", "2 "+word+" -3")
	}
}

func TestNoWord(t *testing.T) {
	for _, do := range []int{0, -1, -2, 17, 18, 99, 256, 257, 1 << 32, 1<<32 + 1, least, least + 1, greatest} {
		told(t, coded(do, 7, api.IPush, 8), "0 ? 7", "1 push 8")
	}
	told(t, coded(99, -1), "0 ? -1")
}

func TestNumbersOfTexts(t *testing.T) {
	for n, want := range map[int]string{
		0: "0", 1: "1", -1: "-1", 9: "9", 10: "10", -10: "-10", 4096: "4096", greatest: "9223372036854775807", greatest - 1: "9223372036854775806",
		least: "-9223372036854775808", least + 1: "-9223372036854775807", 1 << 32: "4294967296",
	} {
		told(t, coded(api.IPush, n, api.INeed, n, 0, n), "0 push "+want, "1 need "+want, "2 ? "+want)
	}
}

// Places go on behind the last one that a code may have.
func TestLongText(t *testing.T) {
	var c api.Code
	var lines []string
	for i := range 20000 {
		c.Instrs = append(c.Instrs, api.Instr{Do: api.ILocal, N: i * i})
		lines = append(lines, fmt.Sprintf("%d local %d", i, i*i))
	}
	told(t, c, lines...)
}

// What isn't an instruction isn't in the text.
func TestTextOfNoInstructions(t *testing.T) {
	told(t, api.Code{})
	told(t, api.Code{Params: 3, Locals: 4, Instrs: []api.Instr{}, Loops: []api.Loop{{Local: 1, N: 2, From: 3, To: 4}}})
	told(t, api.Code{Params: 3, Locals: 4, Instrs: []api.Instr{{Do: api.INot}}, Loops: []api.Loop{{}, {}}}, "0 not 0")
	told(t, api.Code{Instrs: append(make([]api.Instr, 0, 4), api.Instr{Do: api.INot}, api.Instr{Do: api.INeg})[:1]}, "0 not 0")
}

// P11.1: which codes are the same

// full is a code in which every field has a value, and its lists have spare room.
func full() api.Code {
	c := api.Code{Params: 2, Locals: 5, Instrs: make([]api.Instr, 0, 9), Loops: make([]api.Loop, 0, 7)}
	c.Instrs = append(c.Instrs, api.Instr{Do: api.IPush, N: 7}, api.Instr{Do: api.IKeep, N: 4}, api.Instr{Do: api.IPush, N: 8}, api.Instr{Do: 99, N: -1})
	c.Loops = append(c.Loops, api.Loop{Local: 3, N: 4, From: 5, To: 6}, api.Loop{Local: 4, N: 5, From: 6, To: 7}, api.Loop{Local: 3, N: 4, From: 7, To: 8})
	return c
}

// same holds what Same answers of two codes, in either order.
func same(t *testing.T, a, b api.Code, want bool) {
	t.Helper()
	if code.Same(a, b) != want || code.Same(b, a) != want {
		t.Errorf("%v and %v: same is %v, want %v", a, b, !want, want)
	}
}

func TestSame(t *testing.T) {
	c := full()
	same(t, c, c, true)
	same(t, full(), full(), true)
	same(t, api.Code{}, api.Code{}, true)
	same(t, full(), api.Code{}, false)
	d := parsed(t, "op o(i,v){need i<60;for a in 0..3{[a+i]+=v;}give [i];}")
	same(t, compiled(t, d), compiled(t, d), true)
	same(t, compiled(t, d), compiled(t, back(d)), false)
}

// Each code that differs in one thing is another one, whichever it is.
func TestSameButForOneField(t *testing.T) {
	changes := []func(c *api.Code){
		func(c *api.Code) { c.Params++ }, func(c *api.Code) { c.Params = -c.Params }, func(c *api.Code) { c.Locals-- }, func(c *api.Code) { c.Params, c.Locals = c.Locals, c.Params },
		func(c *api.Code) { c.Locals += 1 << 32 }, func(c *api.Code) { c.Params += least },
		func(c *api.Code) { c.Instrs = nil }, func(c *api.Code) { c.Loops = nil }, func(c *api.Code) { c.Instrs = c.Instrs[1:] }, func(c *api.Code) { c.Loops = c.Loops[1:] },
		func(c *api.Code) { c.Instrs = c.Instrs[:3] }, func(c *api.Code) { c.Loops = c.Loops[:2] }, func(c *api.Code) { c.Instrs = append(c.Instrs, api.Instr{}) },
		func(c *api.Code) { c.Loops = append(c.Loops, api.Loop{}) }, func(c *api.Code) { slices.Reverse(c.Instrs) }, func(c *api.Code) { slices.Reverse(c.Loops) },
		func(c *api.Code) { c.Instrs[0], c.Instrs[2] = c.Instrs[2], c.Instrs[0] }, func(c *api.Code) { c.Loops[1], c.Loops[2] = c.Loops[2], c.Loops[1] },
	}
	for i := range full().Instrs {
		changes = append(changes, func(c *api.Code) { c.Instrs[i].Do++ }, func(c *api.Code) { c.Instrs[i].N++ }, func(c *api.Code) { c.Instrs[i].N = -2 }, func(c *api.Code) { c.Instrs[i].Do += 1 << 32 },
			func(c *api.Code) { c.Instrs[i] = api.Instr{} }, func(c *api.Code) { c.Instrs[i].Do, c.Instrs[i].N = c.Instrs[i].N, c.Instrs[i].Do })
	}
	for i := range full().Loops {
		changes = append(changes, func(c *api.Code) { c.Loops[i].Local++ }, func(c *api.Code) { c.Loops[i].N-- }, func(c *api.Code) { c.Loops[i].From++ }, func(c *api.Code) { c.Loops[i].To-- },
			func(c *api.Code) { c.Loops[i] = api.Loop{} }, func(c *api.Code) { c.Loops[i].From, c.Loops[i].To = c.Loops[i].To, c.Loops[i].From },
			func(c *api.Code) { c.Loops[i].N += 1 << 40 })
	}
	for i, change := range changes {
		c := full()
		change(&c)
		if code.Same(c, full()) || code.Same(full(), c) || !code.Same(c, c) {
			t.Errorf("change %d isn't told: %v", i, c)
		}
	}
}

// Kinds that have one word are told apart, and so are loops, of which a text tells nothing.
func TestSameIsntTheText(t *testing.T) {
	same(t, coded(0, 5), coded(17, 5), false)
	same(t, coded(99, 5), coded(-99, 5), false)
	same(t, api.Code{Loops: []api.Loop{{N: 1}}}, api.Code{Loops: []api.Loop{{N: 2}}}, false)
	same(t, api.Code{Params: 1}, api.Code{Locals: 1}, false)
}

// Rule 4: nil and empty lists mean the same; and what is in their spare room means nothing.
func TestSameEmptyLists(t *testing.T) {
	same(t, api.Code{Params: 1}, api.Code{Params: 1, Instrs: []api.Instr{}, Loops: make([]api.Loop, 0, 3)}, true)
	same(t, api.Code{Params: 1, Loops: full().Loops}, api.Code{Params: 1, Instrs: []api.Instr{}, Loops: full().Loops}, true)
	same(t, api.Code{Instrs: full().Instrs}, api.Code{Instrs: full().Instrs, Loops: []api.Loop{}}, true)
	same(t, api.Code{Instrs: []api.Instr{}}, api.Code{Instrs: []api.Instr{{}}}, false)
	a, b := full(), full()
	a.Instrs[:9][5].N, b.Loops[:7][6].To = 77, 78
	same(t, a, b, true)
}
