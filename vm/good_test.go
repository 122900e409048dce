package vm_test

import (
	"slices"
	"strconv"
	"strings"
	"testing"

	"palimpsest/api"
)

// P12.1: each of the six points of what a good code is, from both sides

// 1: how much there may be

func TestParamsAndLocals(t *testing.T) {
	for _, params := range []int{0, 1, 7, 8} {
		good(t, api.Code{Params: params, Locals: params}, api.Code{Params: params, Locals: params + 1}, api.Code{Params: params, Locals: 63}, api.Code{Params: params, Locals: 64})
		bad(t, api.Code{Params: params, Locals: params - 1}, api.Code{Params: params, Locals: -1}, api.Code{Params: params, Locals: 65}, api.Code{Params: params, Locals: least}, api.Code{Params: params, Locals: greatest})
	}
	for _, params := range []int{-1, -8, 9, 10, 64, least, greatest} {
		bad(t, api.Code{Params: params, Locals: params}, api.Code{Params: params, Locals: 64}, api.Code{Params: params, Locals: 8}, api.Code{Params: params})
	}
}

// filled is instructions that do nothing, each a jump to the place behind it, from a place on.
func filled(from, count int) []api.Instr {
	var all []api.Instr
	for at := range count {
		all = append(all, api.Instr{Do: api.IJump, N: from + at + 1})
	}
	return all
}

func TestMostInstructions(t *testing.T) {
	for _, count := range []int{0, 1, 4095, 4096} {
		comes(t, api.Code{Instrs: filled(0, count)}, counted(), counted(), 0, count)
		comes(t, api.Code{Instrs: slices.Repeat(instrs("push 1; need"), count/2)}, counted(), counted(), 0, count/2*2)
	}
	bad(t, api.Code{Instrs: filled(0, 4097)}, api.Code{Instrs: slices.Repeat(instrs("push 1; need"), 2049)}, api.Code{Instrs: filled(0, 5000)}, api.Code{Instrs: make([]api.Instr, 1000000)})
}

// apart is so many loops, one behind the other.
func apart(count int) api.Code {
	c := api.Code{Locals: 1}
	for n := range count {
		c.Instrs = append(c.Instrs, instrs("push 0; keep 0; loop "+strconv.Itoa(n))...)
		c.Loops = append(c.Loops, api.Loop{N: 2, From: 3*n + 2, To: 3*n + 2})
	}
	return c
}

// deep is so many loops, each but the first in the one ahead of it, with so many rounds.
func deep(count, rounds int) api.Code {
	c := api.Code{Locals: count}
	for n := range count {
		c.Instrs = append(c.Instrs, instrs("push 0; keep "+strconv.Itoa(n))...)
		c.Loops = append(c.Loops, api.Loop{Local: n, N: rounds, From: 2*n + 2, To: 3*count - 1 - n})
	}
	for n := range count {
		c.Instrs = append(c.Instrs, api.Instr{Do: api.ILoop, N: count - 1 - n})
	}
	return c
}

func TestMostLoops(t *testing.T) {
	for _, count := range []int{1, 2, 63, 64} {
		comes(t, apart(count), counted(), counted(), 0, 4*count)
		comes(t, deep(count, 1), counted(), counted(), 0, 3*count)
	}
	bad(t, apart(65), apart(66), deep(65, 1))
	// Loops that no instruction ends.
	for _, count := range []int{1, 64, 65, 1000000} {
		bad(t, api.Code{Loops: make([]api.Loop, count)})
	}
}

// one is a loop with a body, and with other numbers than it has.
func one(body string, other func(l *api.Loop)) api.Code {
	c := coded(2, "push 0; keep 3; "+body+"; loop 0")
	c.Loops = []api.Loop{{Local: 3, N: 3, From: 2, To: len(c.Instrs) - 1}}
	other(&c.Loops[0])
	return c
}

// with is a code with another instruction at a place.
func with(c api.Code, at int, text string) api.Code {
	c.Instrs = slices.Clone(c.Instrs)
	c.Instrs[at] = instrs(text)[0]
	return c
}

func TestNumbersOfLoops(t *testing.T) {
	const body = "push 1; push 2; add"
	good(t, one(body, func(l *api.Loop) {}))
	for _, n := range []int{1, 2, 63, 64} {
		good(t, one(body, func(l *api.Loop) { l.N = n }))
	}
	for _, n := range []int{0, -1, 65, 66, least, greatest} {
		bad(t, one(body, func(l *api.Loop) { l.N = n }))
	}
	for local := range 8 {
		good(t, with(one(body, func(l *api.Loop) { l.Local = local }), 1, "keep "+strconv.Itoa(local)))
	}
	for _, local := range []int{-1, 8, 9, 64, least, greatest} {
		bad(t, one(body, func(l *api.Loop) { l.Local = local }), with(one(body, func(l *api.Loop) { l.Local = local }), 1, "keep "+strconv.Itoa(local)))
	}
	for _, from := range []int{0, 1, 3, 4, 5, 6, -1, least, greatest} {
		bad(t, one(body, func(l *api.Loop) { l.From = from }))
	}
	for _, to := range []int{0, 1, 2, 3, 4, 6, 7, -1, least, greatest} {
		bad(t, one(body, func(l *api.Loop) { l.To = to }))
	}
	for _, place := range []int{0, 1, 2, 3, 4, 5, 6, 7, least, greatest} {
		bad(t, one(body, func(l *api.Loop) { l.From, l.To = place, place }))
	}
}

// A From of 2 is the least that there is, and To may be at From.
func TestLeastLoops(t *testing.T) {
	good(t, coded(0, "push 0; keep 0; loop 0", api.Loop{N: 1, From: 2, To: 2}), coded(0, "jump 1; push 0; keep 0; loop 0", api.Loop{N: 1, From: 3, To: 3}))
	bad(t, coded(0, "push 0; keep 0; loop 0", api.Loop{N: 1, From: 3, To: 2}), coded(0, "push 0; keep 0; loop 0", api.Loop{N: 1, From: 2, To: 3}),
		coded(0, "keep 0; loop 0", api.Loop{N: 1, From: 1, To: 1}), coded(0, "loop 0", api.Loop{N: 1}), coded(0, "push 0; keep 0", api.Loop{N: 1, From: 2, To: 2}), coded(0, "", api.Loop{N: 1, From: 2, To: 2}))
}

// 2: what instructions there are, and their numbers

func TestKindsOfInstructions(t *testing.T) {
	for _, do := range []int{0, -1, 17, 18, 255, 257, 1 << 32, 1<<32 + 1, least, greatest} {
		bad(t, api.Code{Instrs: []api.Instr{{Do: do}}}, api.Code{Instrs: []api.Instr{{Do: do, N: 1}}}, api.Code{Instrs: slices.Concat(instrs("push 1; give"), []api.Instr{{Do: do}})},
			api.Code{Instrs: slices.Concat(instrs("jump 2"), []api.Instr{{Do: do}})})
	}
}

// Where a number doesn't matter, it may be any.
func TestNumbersThatDontMatter(t *testing.T) {
	for _, n := range []int{0, 1, -1, 64, least, greatest} {
		text := strings.ReplaceAll("push 3; push 5; set *; push 3; push 5; add *; push 3; push 1; sub *; push 3; push 4; swap *; push 4; cell *; neg *; not *; not *; need *; push 1; give *", "*", strconv.Itoa(n))
		comes(t, coded(0, text), paged(), paged(4, 9), 1, 20)
	}
}

// numbered tells of an instruction whose number is bad at its least or its most, or good beyond.
func numbered(t *testing.T, from, to int, code func(n string) api.Code) {
	t.Helper()
	for _, n := range []int{from, from + 1, (from + to) / 2, to - 1, to} {
		good(t, code(strconv.Itoa(n)))
	}
	for _, n := range []int{from - 1, from - 2, to + 1, to + 2, least, greatest, from - 1<<32, to + 1<<32} {
		bad(t, code(strconv.Itoa(n)))
	}
}

func TestNumbersOfInstructions(t *testing.T) {
	numbered(t, 0, 7, func(n string) api.Code { return coded(0, "local "+n+"; give") })
	numbered(t, 0, 7, func(n string) api.Code { return coded(0, "push 1; keep "+n) })
	numbered(t, 0, 63, func(n string) api.Code { return api.Code{Locals: 64, Instrs: instrs("local " + n + "; give")} })
	numbered(t, 0, 63, func(n string) api.Code { return api.Code{Locals: 64, Instrs: instrs("push 1; keep " + n)} })
	numbered(t, 1, 13, func(n string) api.Code { return coded(0, "push 1; push 1; do "+n+"; give") })
	// Jumps: to the place behind them, to the last place, to the number of instructions; not to their own place.
	numbered(t, 1, 6, func(n string) api.Code { return coded(0, "jump "+n+strings.Repeat("; jump 6", 5)) })
	numbered(t, 4, 6, func(n string) api.Code { return coded(0, "jump 1; jump 2; jump 3; jump "+n+"; jump 5; jump 6") })
	numbered(t, 2, 6, func(n string) api.Code { return coded(0, "push 1; zero "+n+strings.Repeat("; jump 6", 4)) })
	good(t, coded(0, "jump 1"), coded(0, "push 1; zero 2"))
	bad(t, coded(0, "jump 0"), coded(0, "jump 2"), coded(0, "push 1; zero 1"), coded(0, "push 1; zero 3"), coded(0, "push 1; zero 0"))
	// Without locals.
	bad(t, api.Code{Instrs: instrs("local 0; give")}, api.Code{Instrs: instrs("push 0; keep 0")})
	// A loop's number.
	two := func(a, b string) api.Code {
		return coded(0, "push 0; keep 0; loop "+a+"; push 0; keep 1; loop "+b, api.Loop{Local: 0, N: 2, From: 2, To: 2}, api.Loop{Local: 1, N: 2, From: 5, To: 5})
	}
	good(t, two("0", "1"))
	bad(t, two("1", "0"), two("0", "0"), two("1", "1"), two("0", "2"), two("-1", "1"), two("2", "1"), two("0", strconv.Itoa(greatest)), two(strconv.Itoa(least), "1"))
}

// Each loop has its ILoop, and no ILoop is without a loop.
func TestEndsOfLoops(t *testing.T) {
	bad(t, coded(0, "loop 0"), coded(0, "push 0; keep 0; loop 0"), coded(0, "push 0; keep 0; jump 3", api.Loop{N: 2, From: 2, To: 2}),
		coded(0, "push 0; keep 0; loop 0; loop 0", api.Loop{N: 2, From: 2, To: 2}), coded(0, "push 0; keep 0; loop 0; loop 0", api.Loop{N: 2, From: 2, To: 3}),
		coded(0, "push 0; keep 0; loop 0; loop 1", api.Loop{N: 2, From: 2, To: 3}, api.Loop{N: 2, From: 2, To: 2}),
		coded(0, "push 0; keep 0; loop 0", api.Loop{N: 2, From: 2, To: 2}, api.Loop{N: 2, From: 2, To: 2}),
		coded(0, "push 0; keep 0; loop 1", api.Loop{N: 2, From: 2, To: 2}, api.Loop{N: 2, From: 2, To: 2}))
}

// 3: loops

func TestHeadsOfLoops(t *testing.T) {
	c := one("jump 3", func(l *api.Loop) {})
	good(t, c)
	bad(t, with(c, 0, "push 1"), with(c, 0, "push -1"), with(c, 0, "local 0"), with(c, 1, "keep 2"), with(c, 1, "give"), with(c, 1, "need"), with(c, 1, "keep 4"), with(c, 0, "jump 1"))
	// What stands ahead of From must be just these two.
	head := func(text string) api.Code {
		c := coded(2, text+"; loop 0")
		to := len(c.Instrs) - 1
		c.Loops = []api.Loop{{Local: 3, N: 2, From: to, To: to}}
		return c
	}
	good(t, head("push 0; keep 3"), head("push 0; keep 3; push 0; keep 3"), head("push 1; keep 3; push 0; keep 3"), head("push 1; zero 2; push 0; keep 3"))
	bad(t, head("push 0; keep 3; jump 3"), head("push 0; keep 3; push 1; need"), head("push 0; neg; keep 3"), head("keep 3; push 0"), head("push 1; push 0; keep 3; keep 3"), head("push 0; keep 3; push 0; give"))
	// A number that isn't 0, and another one's 0 behind it.
	bad(t, head("push 0; push 1; do 1; keep 3"), head("push 0; push 0; keep 3; keep 3"))
}

func TestTwoLoops(t *testing.T) {
	apart := coded(0, "push 0; keep 0; loop 0; push 0; keep 0; loop 1", api.Loop{N: 2, From: 2, To: 2}, api.Loop{N: 2, From: 5, To: 5})
	within := coded(0, "push 0; keep 0; push 0; keep 1; loop 1; loop 0", api.Loop{N: 2, From: 2, To: 5}, api.Loop{Local: 1, N: 2, From: 4, To: 4})
	good(t, apart, within)
	// Crossed: the second one begins in the first one and ends behind it.
	bad(t, coded(0, "push 0; keep 0; push 0; keep 1; loop 0; loop 1", api.Loop{N: 2, From: 2, To: 4}, api.Loop{Local: 1, N: 2, From: 4, To: 5}))
	bad(t, coded(0, "push 0; keep 0; push 0; keep 1; loop 0; loop 1", api.Loop{N: 1, From: 2, To: 4}, api.Loop{Local: 1, N: 1, From: 4, To: 5}))
	bad(t, coded(0, "push 0; keep 0; push 0; keep 1; loop 1; loop 0", api.Loop{Local: 1, N: 2, From: 4, To: 5}, api.Loop{N: 2, From: 2, To: 4}))
	// Both with one beginning.
	bad(t, coded(0, "push 0; keep 0; loop 0; loop 1", api.Loop{N: 1, From: 2, To: 2}, api.Loop{N: 1, From: 2, To: 3}))
	// One ends within the two instructions that the other begins with.
	bad(t, coded(0, "push 0; keep 0; push 0; loop 0; loop 1", api.Loop{N: 1, From: 2, To: 3}, api.Loop{N: 1, From: 4, To: 4}))
}

// No IKeep within a loop has its local, and no loop within it either.
func TestKeptInLoops(t *testing.T) {
	good(t, one("push 1; keep 2", func(l *api.Loop) {}), one("push 1; keep 4; local 3; keep 5", func(l *api.Loop) {}))
	bad(t, one("push 1; keep 3", func(l *api.Loop) {}), one("local 3; keep 3", func(l *api.Loop) {}), one("push 0; keep 2; push 0; keep 3; push 0; keep 4", func(l *api.Loop) {}),
		one("jump 3; jump 6; push 0; keep 3; jump 7", func(l *api.Loop) {}))
	c := coded(0, "push 7; keep 0; push 0; keep 0; loop 0; push 7; keep 0", api.Loop{N: 2, From: 4, To: 4})
	good(t, c)
	inner := func(local string, number int) api.Code {
		return coded(0, "push 0; keep 0; push 0; keep 1; push 0; keep "+local+"; loop 2; loop 1; loop 0", api.Loop{N: 2, From: 2, To: 8}, api.Loop{Local: 1, N: 2, From: 4, To: 7}, api.Loop{Local: number, N: 2, From: 6, To: 6})
	}
	good(t, inner("2", 2))
	bad(t, inner("0", 0), inner("1", 1))
}

// 4: jumps

func TestJumpsAndLoops(t *testing.T) {
	// At 0 a jump ahead of the loop, at 6 one within it, at 10 the loop's end, at 11 one behind it.
	code := func(ahead, in, behind int) api.Code {
		n := strconv.Itoa
		return coded(0, "jump "+n(ahead)+"; jump 2; jump 3; push 0; keep 3; jump 6; jump "+n(in)+"; jump 8; jump 9; jump 10; loop 0; jump "+n(behind)+"; jump 13", api.Loop{Local: 3, N: 3, From: 5, To: 10})
	}
	good(t, code(1, 7, 12))
	for n := range 16 {
		// To the first of the two instructions that a loop begins with one may jump, to the other and into the loop not.
		if c := code(n, 7, 12); n >= 1 && n <= 3 || n >= 11 && n <= 13 {
			good(t, c)
		} else {
			bad(t, c)
		}
		if c := code(1, n, 12); n >= 7 && n <= 10 {
			good(t, c)
		} else {
			bad(t, c)
		}
		if c := code(1, 7, n); n == 12 || n == 13 {
			good(t, c)
		} else {
			bad(t, c)
		}
	}
}

// The same is so of IZero, of jumps that are never come to, and of loops in loops.
func TestZeroesAndLoops(t *testing.T) {
	code := func(ahead, in int) api.Code {
		n := strconv.Itoa
		return coded(0, "push 1; zero "+n(ahead)+"; jump 3; push 0; keep 3; push 1; zero "+n(in)+"; jump 8; loop 0; jump 10", api.Loop{Local: 3, N: 3, From: 5, To: 8})
	}
	for n := range 12 {
		if c := code(n, 7); n == 2 || n == 3 || n == 9 || n == 10 {
			good(t, c)
		} else {
			bad(t, c)
		}
		if c := code(2, n); n == 7 || n == 8 {
			good(t, c)
		} else {
			bad(t, c)
		}
	}
	dead := func(n int) api.Code {
		return coded(0, "jump 2; jump "+strconv.Itoa(n)+"; push 0; keep 3; jump 5; loop 0", api.Loop{Local: 3, N: 3, From: 4, To: 5})
	}
	good(t, dead(2), dead(6))
	bad(t, dead(3), dead(4), dead(5))
	nest := func(n int) api.Code {
		return coded(0, "push 0; keep 0; jump 3; jump "+strconv.Itoa(n)+"; push 0; keep 1; jump 7; loop 1; jump 9; loop 0; jump 11", api.Loop{N: 3, From: 2, To: 9}, api.Loop{Local: 1, N: 3, From: 6, To: 7})
	}
	for n := range 13 {
		if c := nest(n); n == 4 || n == 8 || n == 9 {
			good(t, c)
		} else {
			bad(t, c)
		}
	}
}

// 5: the stack

// No instruction pops more than there is.
func TestPops(t *testing.T) {
	for word, pops := range map[string]int{"push 1": 0, "local 0": 0, "keep 0": 1, "cell": 1, "set": 2, "add": 2, "sub": 2, "swap": 2, "do 3": 2, "neg": 1, "not": 1, "jump *": 0, "zero *": 1, "need": 1, "give": 1} {
		pushes := map[string]int{"push 1": 1, "local 0": 1, "cell": 1, "do 3": 1, "neg": 1, "not": 1}[word]
		for has := range 4 {
			text := strings.Repeat("push 1; ", has) + strings.Replace(word, "*", strconv.Itoa(has+1), 1)
			left := has - pops + pushes
			c := coded(1, text+strings.Repeat("; give", max(0, left)))
			if has < pops {
				bad(t, c, coded(1, text))
				continue
			}
			good(t, c)
			bad(t, coded(1, text+strings.Repeat("; give", left+1)), coded(1, text+strings.Repeat("; give", left)+"; push 1"))
			if left > 0 {
				bad(t, coded(1, text+strings.Repeat("; give", left-1)), coded(1, text))
			}
		}
	}
}

// None pushes above 64.
func TestHighestStack(t *testing.T) {
	for _, word := range []string{"push 7", "local 0"} {
		for _, height := range []int{1, 63, 64, 65, 66, 100} {
			c := coded(1, strings.Repeat(word+";", height)+strings.Repeat("give;", height))
			sum := coded(1, strings.Repeat(word+";", height)+strings.Repeat("do 1;", height-1)+"give")
			if height > 64 {
				bad(t, c, sum)
				continue
			}
			comes(t, c, counted(), counted(), 7, 2*height, 7)
			comes(t, sum, counted(), counted(), 7*height, 2*height, 7)
		}
	}
	// What pops first may be at 64.
	for _, word := range []string{"cell", "neg", "not", "do 1; push 1", "keep 0; local 0", "jump 65", "zero 65; push 1"} {
		c := coded(1, strings.Repeat("push 7;", 64)+word+strings.Repeat("; give", 64))
		good(t, c)
	}
	bad(t, coded(1, strings.Repeat("push 7;", 64)+"cell; push 1"+strings.Repeat("; give", 65)))
}

// One height, whichever way a place is come to.
func TestWaysToAPlace(t *testing.T) {
	good(t, coded(1, "local 0; zero 4; push 1; jump 5; push 2; give"), coded(1, "local 0; zero 4; push 1; give"), coded(1, "push 3; local 0; zero 5; push 1; do 1; give"),
		coded(1, "local 0; zero 5; push 1; keep 0; jump 7; push 2; give"))
	bad(t, coded(1, "local 0; zero 3; push 1; give"), coded(1, "local 0; zero 4; push 1; jump 5; give; push 2"), coded(1, "local 0; zero 4; push 1; jump 6; push 2; give"),
		coded(1, "local 0; zero 5; push 1; push 2; jump 6; push 2; give"), coded(1, "push 3; local 0; zero 4; push 1; give"), coded(1, "push 3; local 0; zero 5; give; jump 6; jump 6; push 1; give"))
	// Of three ways one that is unlike the others.
	three := func(a, b, c string) api.Code {
		return coded(1, "local 0; zero 7; local 0; zero 9; push "+a+"; jump 11; push 9; keep 0; push "+b+"; jump 11; push "+c+"; give")
	}
	bad(t, three("1", "2", "3"))
	good(t, coded(1, "local 0; zero 6; local 0; zero 8; push 1; jump 9; push 2; jump 9; push 3; give"))
	bad(t, coded(1, "local 0; zero 6; local 0; zero 8; jump 9; push 1; push 2; jump 9; push 3; give"), coded(1, "local 0; zero 6; local 0; zero 8; push 1; jump 9; jump 8; jump 9; push 3; give"))
}

// The end is come to with height 0, whichever way.
func TestHeightAtTheEnd(t *testing.T) {
	good(t, coded(1, "local 0; zero 2"), coded(1, "jump 1"), coded(1, "local 0; zero 4; push 1; give"))
	bad(t, coded(1, "push 1"), coded(1, "push 1; jump 2"), coded(1, "push 1; local 0; zero 3"), coded(1, "push 1; local 0; zero 4; give"), coded(1, "local 0; zero 3; push 1"), coded(1, "push 1; push 1; need"))
}

// A place that is never come to counts as come to by the one ahead of it, if that is no jump; else it has height 0. What it does to the
// stack is asked like that of any other one.
func TestPlacesThatAreNeverComeTo(t *testing.T) {
	good(t, coded(1, "jump 3; push 1; give"), coded(1, "jump 4; push 1; push 2; set"), coded(1, "jump 2; jump 2; push 1; give"), coded(1, "push 1; jump 4; push 5; jump 4; give"),
		coded(1, "push 1; jump 3; push 5; give"), coded(1, "jump 6; push 1; push 2; zero 5; jump 5; give"), coded(1, "jump 6; jump 6; jump 6; push 1; push 2; set; jump 7"))
	bad(t, coded(1, "push 7; jump 3; neg; give"), coded(1, "jump 2; give"), coded(1, "jump 2; push 1"), coded(1, "jump 4; push 1; push 2; give"), coded(1, "jump 3; push 1; set"),
		coded(1, "push 1; jump 3; jump 3; give"), coded(1, "push 1; push 1; jump 5; push 5; jump 5; set"), coded(1, "jump 66"+strings.Repeat("; push 1", 65)), coded(1, "jump 5; push 1; zero 4; push 1; give"))
	good(t, coded(1, "jump 129"+strings.Repeat("; push 1", 64)+strings.Repeat("; give", 64)))
	bad(t, coded(1, "jump 131"+strings.Repeat("; push 1", 65)+strings.Repeat("; give", 65)))
	// One that only such a place jumps to is come to by that.
	good(t, coded(1, "jump 5; push 1; jump 4; jump 5; give"), coded(1, "jump 7; push 9; push 1; zero 6; give; jump 7; give"))
	bad(t, coded(1, "jump 5; push 1; jump 4; jump 5; push 1"), coded(1, "jump 5; push 1; jump 4; jump 4; give"))
	// A loop that is never come to.
	dead := func(text string) api.Code {
		return coded(1, "jump 7; push 0; keep 0; "+text+"; loop 0; jump 7", api.Loop{N: 64, From: 3, To: 5})
	}
	good(t, dead("push 1; give"))
	comes(t, dead("push 1; give"), counted(), counted(), 0, 1, 7)
	bad(t, dead("push 1; push 1"), dead("push 1; neg"))
}

// It is 0 at a loop's beginning and at its end.
func TestHeightsOfLoops(t *testing.T) {
	bad(t, one("push 1", func(l *api.Loop) {}), one("push 1; push 2; give", func(l *api.Loop) {}), one("give", func(l *api.Loop) {}))
	around := func(ahead, in, behind string) api.Code {
		c := coded(1, ahead+"; push 0; keep 3; "+in)
		to := len(c.Instrs)
		c.Instrs = append(c.Instrs, instrs("loop 0; "+behind)...)
		c.Loops = []api.Loop{{Local: 3, N: 2, From: len(instrs(ahead)) + 2, To: to}}
		return c
	}
	good(t, around("", "", ""), around("push 1; give", "push 1; give", "push 1; give"))
	bad(t, around("push 1", "", "give"), around("push 1", "push 2; give", "give"), around("push 1", "give", ""), around("push 1", "give", "push 1; give"), around("", "push 1", "give"), around("push 1", "neg", "give"),
		around("", "push 1; push 2", "set"))
	// In another loop, where one way comes with another height.
	bad(t, coded(1, "push 0; keep 3; push 1; push 0; keep 4; loop 0; give; loop 1", api.Loop{Local: 4, N: 2, From: 5, To: 5}, api.Loop{Local: 3, N: 2, From: 2, To: 7}))
	bad(t, coded(1, "push 0; keep 3; push 5; local 0; zero 6; give; loop 0", api.Loop{Local: 3, N: 2, From: 2, To: 6}))
}

// 6: steps

// stepped is a code of two loops of 64 rounds, one in the other, with so many instructions more in both of them, in one, and behind.
func stepped(inner, outer, behind int) api.Code {
	c := api.Code{Locals: 2, Instrs: instrs("push 0; keep 0")}
	put := func(count int) { c.Instrs = append(c.Instrs, filled(len(c.Instrs), count)...) }
	put(outer)
	c.Instrs = append(c.Instrs, instrs("push 0; keep 1")...)
	from := len(c.Instrs)
	put(inner)
	c.Loops = []api.Loop{{Local: 1, N: 64, From: from, To: len(c.Instrs)}, {Local: 0, N: 64, From: 2, To: len(c.Instrs) + 1}}
	c.Instrs = append(c.Instrs, instrs("loop 0; loop 1")...)
	put(behind)
	return c
}

func TestMostSteps(t *testing.T) {
	for _, row := range [][3]int{{14, 60, 62}, {14, 0, 3902}, {14, 57, 254}, {0, 955, 126}, {14, 1, 3838}} {
		c := stepped(row[0], row[1], row[2])
		sum := 2 + 64*(row[1]+3) + 4096*(row[0]+1) + row[2]
		if sum != 65536 {
			t.Fatal(row, sum)
		}
		comes(t, c, counted(), counted(), 0, 65536)
		bad(t, stepped(row[0], row[1], row[2]+1), stepped(row[0], row[1]+1, row[2]), stepped(row[0]+1, row[1], row[2]), stepped(row[0]+1, row[1], 0))
	}
	// What isn't done counts, too.
	c := stepped(14, 60, 61)
	c.Instrs[len(c.Instrs)-61].N = len(c.Instrs)
	comes(t, c, counted(), counted(), 0, 65536-61)
	c = stepped(14, 60, 63)
	c.Instrs[len(c.Instrs)-63].N = len(c.Instrs)
	bad(t, c)
	// Loops within one another count by what their numbers make, beyond 64 bits, too.
	for rounds := 1; rounds <= 64; rounds++ {
		for count := 1; count <= 64; count++ {
			sum, times := 0, 1
			for range count {
				sum += 2 * times
				times = min(times*rounds, 1<<20)
				sum += times
			}
			if c := deep(count, rounds); sum > 65536 {
				bad(t, c)
			} else {
				good(t, c)
			}
		}
	}
	comes(t, deep(14, 2), counted(), counted(), 0, 65532)
}
