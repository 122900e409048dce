package code

import (
	"cmp"
	"slices"

	"palimpsest/api"
)

// maker makes the code of a definition that Check takes.
type maker struct {
	api.Code
	locals   map[string]int // each name's local
	counters map[string]int // the local that counts a loop's rounds, by the loop's name
}

// put lays an instruction, and answers its place.
func (m *maker) put(do, n int) int {
	m.Instrs = append(m.Instrs, api.Instr{Do: do, N: n})
	return len(m.Instrs) - 1
}

// local is a local that is new.
func (m *maker) local() int {
	m.Locals++
	return m.Locals - 1
}

// names gives all names their locals, and the loops their counters: those of loops that run backwards come behind all names.
func (m *maker) names(d api.Def) {
	m.Params = len(d.Params)
	for _, name := range d.Params {
		m.locals[name] = m.local()
	}
	list := inTextOrder(declared(d.Body))
	for _, s := range list {
		m.locals[s.Name] = m.local()
	}
	for _, s := range list {
		switch s.Kind {
		case api.SFor:
			m.counters[s.Name] = m.locals[s.Name]
		case api.SBack:
			m.counters[s.Name] = m.local()
		}
	}
}

// declared is the statements that declare a name, of a block and of the blocks within.
func declared(list []api.Stmt) []api.Stmt {
	var all []api.Stmt
	for _, s := range list {
		switch s.Kind {
		case api.SLet, api.SFor, api.SBack:
			all = append(all, s)
		}
		all = append(all, declared(s.Body)...)
		all = append(all, declared(s.Else)...)
	}
	return all
}

// inTextOrder sorts statements by their places: those of a turned operation stand in another order than the text has them, and only
// their places still tell it.
func inTextOrder(list []api.Stmt) []api.Stmt {
	slices.SortStableFunc(list, func(a, b api.Stmt) int { return cmp.Compare(a.At, b.At) })
	return list
}

// block makes a block's code: of each statement its expressions come first, then what it does with them.
func (m *maker) block(list []api.Stmt) {
stmts:
	for _, s := range list {
		for _, e := range s.Exprs {
			m.expr(e)
		}
		var last api.Instr
		switch s.Kind {
		case api.SIf:
			m.choice(s)
			continue stmts
		case api.SFor, api.SBack:
			m.loop(s)
			continue stmts
		case api.SLet:
			last = api.Instr{Do: api.IKeep, N: m.locals[s.Name]}
		case api.SSet:
			last.Do = api.ISet
		case api.SAdd:
			last.Do = api.IAdd
		case api.SSub:
			last.Do = api.ISub
		case api.SSwap:
			last.Do = api.ISwap
		}
		m.put(last.Do, last.N)
	}
}

// choice makes the code of an if's blocks, behind that of what it asks.
func (m *maker) choice(s api.Stmt) {
	zero := m.put(api.IZero, 0)
	m.block(s.Body)
	if len(s.Else) == 0 {
		m.land(zero)
		return
	}
	jump := m.put(api.IJump, 0)
	m.land(zero)
	m.block(s.Else)
	m.land(jump)
}

// land makes the jump at a place go to where the code ends as yet.
func (m *maker) land(jump int) {
	m.Instrs[jump].N = len(m.Instrs)
}

// loop makes a loop's code: its block runs at least once, so one of no round has none.
func (m *maker) loop(s api.Stmt) {
	if s.N == 0 {
		return
	}
	l := api.Loop{Local: m.counters[s.Name], N: s.N}
	m.put(api.IPush, 0)
	m.put(api.IKeep, l.Local)
	l.From = len(m.Instrs)
	if s.Kind == api.SBack {
		m.put(api.IPush, s.N-1)
		m.put(api.ILocal, l.Local)
		m.put(api.IDo, operator("-"))
		m.put(api.IKeep, m.locals[s.Name])
	}
	m.block(s.Body)
	l.To = m.put(api.ILoop, len(m.Loops))
	m.Loops = append(m.Loops, l)
}
