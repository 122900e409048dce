package vm

import (
	"slices"

	"palimpsest/api"
)

const (
	maxLocals  = 64
	maxLoops   = 64
	maxHeight  = 64    // numbers on the stack
	maxSteps   = 65536 // instructions of a run
	operators  = 13
	headLength = 2 // instructions ahead of a loop's From that set its local
)

// checker asks a code for each thing that makes it good.
type checker struct {
	api.Code
}

// good asks in an order in which no question meets what a question ahead of it had to refuse, such as a place that isn't there.
func (k checker) good() bool {
	return k.fits() && k.loops() && k.instrs() && k.headed() && k.nested() && k.jumps() && k.stack() && k.steps() <= maxSteps
}

func (k checker) fits() bool {
	return k.Params >= 0 && k.Params <= api.MaxParams && k.Locals >= k.Params && k.Locals <= maxLocals &&
		len(k.Instrs) <= api.MaxCode && len(k.Loops) <= maxLoops
}

func (k checker) isLocal(n int) bool {
	return n >= 0 && n < k.Locals
}

// loops tells whether each loop's numbers are allowed.
func (k checker) loops() bool {
	for _, l := range k.Loops {
		if !k.isLocal(l.Local) || l.N < 1 || l.N > api.MaxLoop || l.From < headLength || l.To < l.From || l.To >= len(k.Instrs) {
			return false
		}
	}
	return true
}

// instrs tells whether each instruction is one, with a number that is allowed.
func (k checker) instrs() bool {
	for at, i := range k.Instrs {
		if !k.instr(at, i) {
			return false
		}
	}
	return true
}

func (k checker) instr(at int, i api.Instr) bool {
	switch i.Do {
	case api.ILocal, api.IKeep:
		return k.isLocal(i.N)
	case api.IDo:
		return i.N >= 1 && i.N <= operators
	case api.IJump, api.IZero:
		return i.N > at && i.N <= len(k.Instrs)
	case api.ILoop:
		return i.N >= 0 && i.N < len(k.Loops) && k.Loops[i.N].To == at
	}
	return i.Do >= api.IPush && i.Do <= api.IGive
}

// headed tells whether each loop begins with its local at 0, ends with its ILoop, and keeps nothing in that local between the two.
func (k checker) headed() bool {
	for n, l := range k.Loops {
		zero, keep := api.Instr{Do: api.IPush}, api.Instr{Do: api.IKeep, N: l.Local}
		if k.Instrs[l.From-headLength] != zero || k.Instrs[l.From-1] != keep || k.Instrs[l.To] != (api.Instr{Do: api.ILoop, N: n}) {
			return false
		}
		if slices.Contains(k.Instrs[l.From:l.To], keep) {
			return false
		}
	}
	return true
}

// nested tells whether of each two loops one stands in the other, or both stand apart.
func (k checker) nested() bool {
	for n, a := range k.Loops {
		for _, b := range k.Loops[n+1:] {
			apart := a.To < b.From-headLength || b.To < a.From-headLength
			if !apart && !standsIn(a, b) && !standsIn(b, a) {
				return false
			}
		}
	}
	return true
}

// standsIn tells whether a loop and what sets its local are within another one.
func standsIn(a, b api.Loop) bool {
	return within(a.From-headLength, b) && within(a.To, b)
}

// within tells whether a place is run in each round of a loop.
func within(at int, l api.Loop) bool {
	return at >= l.From && at <= l.To
}

// jumps tells whether no jump leaves a loop, and none comes into one but ahead of what sets its local.
func (k checker) jumps() bool {
	for at, i := range k.Instrs {
		if i.Do != api.IJump && i.Do != api.IZero {
			continue
		}
		for _, l := range k.Loops {
			in := within(at, l)
			if in != within(i.N, l) || !in && i.N == l.From-1 {
				return false
			}
		}
	}
	return true
}

// steps is how many instructions a run does at most, as far as that is allowed; else some number that isn't allowed, too.
func (k checker) steps() int {
	sum := 0
	for at := range k.Instrs {
		times := 1
		for _, l := range k.Loops {
			if within(at, l) {
				// Sixty-four loops within one another would go beyond 64 bits.
				times = min(times*l.N, maxSteps+1)
			}
		}
		sum += times
	}
	return sum
}
