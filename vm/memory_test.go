package vm_test

import (
	"slices"
	"testing"

	"palimpsest/api"
	"palimpsest/vm"
)

// P12.4: what is handed in is neither changed nor kept, spare room of lists included

// spare is a list with its own memory, and spare room with something in it.
func spare[T any](list []T, with T) []T {
	all := make([]T, 0, len(list)+3)
	all = append(append(all, list...), with, with, with)
	return all[:len(list)]
}

// room is every item of a list, its spare room included.
func room[T any](list []T) []T {
	return list[:cap(list)]
}

// roomy is a code with its own memory, whose lists have spare room.
func roomy(c api.Code) api.Code {
	c.Instrs, c.Loops = spare(c.Instrs, api.Instr{Do: api.IGive, N: -3}), spare(c.Loops, api.Loop{Local: -4, N: -5, From: -6, To: -7})
	return c
}

// sameRoom tells whether two codes are the same, with their spare room.
func sameRoom(a, b api.Code) bool {
	return a.Params == b.Params && a.Locals == b.Locals && len(a.Instrs) == len(b.Instrs) && len(a.Loops) == len(b.Loops) &&
		slices.Equal(room(a.Instrs), room(b.Instrs)) && slices.Equal(room(a.Loops), room(b.Loops))
}

// scribble writes over all memory of a code.
func scribble(c api.Code) {
	for i := range room(c.Instrs) {
		room(c.Instrs)[i] = api.Instr{Do: 99, N: -1}
	}
	for i := range room(c.Loops) {
		room(c.Loops)[i] = api.Loop{Local: 98, N: -2, From: -3, To: -4}
	}
}

// ordinary is codes with each of the instructions in them, of two parameters each, good ones and others.
func ordinary() []api.Code {
	return []api.Code{
		{Params: 2, Locals: 2},
		coded(2, "local 0; local 1; set; local 1; local 0; sub; push 3; local 0; swap; local 0; cell; give"),
		coded(2, "local 0; need; push 7; keep 0; local 0; local 0; add; local 1; neg; not; zero 13; jump 13; jump 13"),
		coded(2, "push 0; keep 0; local 0; local 1; do 3; keep 5; push 0; keep 1; local 1; local 5; add; loop 1; loop 0; local 0; give",
			api.Loop{Local: 0, N: 4, From: 2, To: 12}, api.Loop{Local: 1, N: 5, From: 8, To: 11}),
		coded(2, "local 0; local 1; add; local 0; local 1"), coded(2, "push 0; keep 0; local 0; give; loop 0", api.Loop{N: 70, From: 2, To: 4}), coded(2, "local 0; keep 8"),
		stepped(14, 60, 63), {Params: 2, Locals: 70, Instrs: instrs("push 1")}, coded(2, "push 5; local 1; zero 9; give"),
	}
}

func TestMemory(t *testing.T) {
	for _, code := range ordinary() {
		for _, args := range [][]int{{3, 4}, {0, 0}, {least, 60}, {1}} {
			c, given, p := roomy(code), spare(args, 77), counted()
			want := ran(t, code, counted(), args...)
			check := vm.Check(code)
			err := vm.Check(c)
			q, n, failed := vm.Run(c, p, given...)
			steps, other := vm.Steps(c, p, given...)
			if !sameRoom(c, roomy(code)) || !slices.Equal(room(given), room(spare(args, 77))) || p != counted() {
				t.Errorf("%s with %v: became %s with %v, or their spare room was written to", listed(code), args, listed(c), given)
			}
			if err != check || q != want.page || n != want.n || steps != want.steps || (failed == nil) != (want.err == 0) || other != nil && failed != other {
				t.Errorf("%s with %v: %v, %d, %d", listed(code), args, q, n, steps)
			}
			// What becomes of what was handed in, and of what was answered, changes nothing of a later call.
			scribble(c)
			for i := range room(given) {
				room(given)[i] = -9
			}
			q.Cells[3] = -9
			if got := ran(t, roomy(code), counted(), args...); got != want {
				t.Errorf("%s with %v: %v, was %v", listed(code), args, got, want)
			}
		}
	}
}

// Arguments may share their memory with the code's numbers, and lists of two codes theirs.
func TestSharedMemory(t *testing.T) {
	args := []int{3, 4}
	c := coded(2, "push 9; keep 0; push 8; keep 1; local 0; local 1; add")
	for range 2 {
		if got := ran(t, c, counted(), args...); got != (outcome{page: changed(9, 117), steps: 7}) || args[0] != 3 || args[1] != 4 {
			t.Error(got, args)
		}
	}
	short := c
	short.Instrs = c.Instrs[:4]
	comes(t, short, counted(), counted(), 0, 4, args...)
	comes(t, c, counted(), changed(9, 117), 0, 7, args...)
}

// Rule 8: answers hang on nothing else.
func TestSameAnswers(t *testing.T) {
	var wants []outcome
	for _, c := range ordinary() {
		wants = append(wants, ran(t, c, counted(), 3, 4))
	}
	for range 3 {
		for i, c := range slices.Backward(ordinary()) {
			if got := ran(t, c, counted(), 3, 4); got != wants[i] {
				t.Errorf("%s: %v, was %v", listed(c), got, wants[i])
			}
		}
	}
}

// Rule 4: nil and empty lists mean the same.
func TestEmptyLists(t *testing.T) {
	comes(t, api.Code{Instrs: []api.Instr{}, Loops: []api.Loop{}}, counted(), counted(), 0, 0, []int{}...)
	comes(t, api.Code{}, counted(), counted(), 0, 0)
	bad(t, api.Code{Params: -1, Instrs: []api.Instr{}, Loops: []api.Loop{}}, api.Code{Loops: make([]api.Loop, 1), Instrs: []api.Instr{}})
	comes(t, api.Code{Instrs: instrs("push 1; need"), Loops: []api.Loop{}}, counted(), counted(), 0, 2)
}

// Rule 1: codes whose numbers are anything end, and are refused.
func TestOddCodes(t *testing.T) {
	numbers := []int{0, 1, -1, 2, 3, 64, 4096, least, least + 1, greatest, greatest - 1}
	for _, a := range numbers {
		for _, b := range numbers {
			for do := range 20 {
				bad(t, api.Code{Params: 0, Locals: 1, Instrs: []api.Instr{{Do: api.IJump, N: a}, {Do: do, N: b}, {Do: 77}}})
			}
			for _, from := range numbers {
				for _, to := range numbers {
					bad(t, api.Code{Locals: 1, Instrs: instrs("push 0; keep 0; loop 1"), Loops: []api.Loop{{Local: a, N: b, From: from, To: to}}},
						api.Code{Instrs: instrs("push 0"), Loops: []api.Loop{{Local: a, N: b, From: from, To: to}}})
				}
			}
		}
	}
	bad(t, api.Code{Instrs: make([]api.Instr, 5000000)}, api.Code{Loops: make([]api.Loop, 5000000)}, api.Code{Params: greatest, Locals: greatest}, api.Code{Params: least, Locals: greatest})
}
