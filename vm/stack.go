package vm

import "palimpsest/api"

// stack tells whether the stack has one height at each place, and one that is allowed there. Jumps go ahead, and a loop begins with
// height 0, so that one look at each place is enough.
func (k checker) stack() bool {
	heights := make([]int, len(k.Instrs)+1)
	for at := range heights {
		heights[at] = -1
	}
	has := func(at, height int) bool {
		if heights[at] < 0 {
			heights[at] = height
		}
		return heights[at] == height
	}
	for at, i := range k.Instrs {
		// This is asked of place 0, and behind a jump of a place that nothing comes to.
		if heights[at] < 0 {
			heights[at] = 0
		}
		pops, pushes := moves(i.Do)
		height := heights[at] - pops
		if height < 0 || height+pushes > maxHeight || i.Do == api.ILoop && height != 0 {
			return false
		}
		height += pushes
		if i.Do != api.IJump && !has(at+1, height) {
			return false
		}
		if (i.Do == api.IJump || i.Do == api.IZero) && !has(i.N, height) {
			return false
		}
	}
	for _, l := range k.Loops {
		if !has(l.From, 0) {
			return false
		}
	}
	return has(len(k.Instrs), 0)
}

// moves is how many numbers an instruction pops, and how many it pushes behind that.
func moves(do int) (pops, pushes int) {
	switch do {
	case api.IPush, api.ILocal:
		return 0, 1
	case api.ICell, api.INeg, api.INot:
		return 1, 1
	case api.IDo:
		return 2, 1
	case api.IKeep, api.IZero, api.INeed, api.IGive:
		return 1, 0
	case api.ISet, api.IAdd, api.ISub, api.ISwap:
		return 2, 0
	}
	return 0, 0
}
