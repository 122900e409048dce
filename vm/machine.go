package vm

import (
	"palimpsest/api"
	"palimpsest/page"
)

// machine runs a good code on its page, so that it asks neither for the stack's ends nor for places and locals that aren't there.
type machine struct {
	api.Page
	code   api.Code
	locals [maxLocals]int
	stack  []int
	at     int // the place of the next instruction
	steps  int // instructions that were done
	given  int
}

// run does instructions up to the end; false, if a need isn't met.
func (m *machine) run() bool {
	for m.at < len(m.code.Instrs) {
		i := m.code.Instrs[m.at]
		m.at++
		m.steps++
		if i.Do == api.INeed && m.pop() == 0 {
			return false
		}
		m.do(i)
	}
	return true
}

func (m *machine) push(value int) {
	m.stack = append(m.stack, value)
}

func (m *machine) pop() int {
	top := len(m.stack) - 1
	value := m.stack[top]
	m.stack = m.stack[:top]
	return value
}

// do does an instruction; of a need there is nothing left to be done.
func (m *machine) do(i api.Instr) {
	switch i.Do {
	case api.IPush:
		m.push(i.N)
	case api.ILocal:
		m.push(m.locals[i.N])
	case api.IKeep:
		m.locals[i.N] = m.pop()
	case api.ICell:
		m.push(m.cell(m.pop()))
	case api.ISet, api.IAdd, api.ISub:
		value := m.pop()
		m.change(i.Do, m.pop(), value)
	case api.ISwap:
		second := m.pop()
		first := m.pop()
		m.set(api.Image{Cell: first, Value: m.cell(second)}, api.Image{Cell: second, Value: m.cell(first)})
	case api.IDo:
		right := m.pop()
		m.push(operate(i.N, m.pop(), right))
	case api.INeg:
		m.push(-m.pop())
	case api.INot:
		m.push(truth(m.pop() == 0))
	case api.IJump:
		m.at = i.N
	case api.IZero:
		if m.pop() == 0 {
			m.at = i.N
		}
	case api.ILoop:
		m.round(m.code.Loops[i.N])
	case api.IGive:
		m.given = m.pop()
	}
}

// round ends a round of a loop.
func (m *machine) round(l api.Loop) {
	m.locals[l.Local]++
	if m.locals[l.Local] < l.N {
		m.at = l.From
	}
}

// cell is a cell's value; 0, if there is no such cell.
func (m *machine) cell(index int) int {
	value, _ := page.Get(m.Page, index)
	return value
}

// change sets a cell, adds to it or takes from it.
func (m *machine) change(do, index, value int) {
	switch do {
	case api.IAdd:
		value = m.cell(index) + value
	case api.ISub:
		value = m.cell(index) - value
	}
	m.set(api.Image{Cell: index, Value: value})
}

// set sets cells, if all of them are there: what is done to others does nothing.
func (m *machine) set(images ...api.Image) {
	if p, err := page.Set(m.Page, images...); err == nil {
		m.Page = p
	}
}
