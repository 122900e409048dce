package op_test

import (
	"math"
	"strconv"
	"strings"
	"testing"

	"palimpsest/api"
	"palimpsest/check"
	"palimpsest/parse"
)

const (
	least    = math.MinInt
	greatest = math.MaxInt
)

// draw is numbers in a row that looks like chance.
type draw uint64

// next is a number below n.
func (d *draw) next(n int) int {
	*d = *d*6364136223846793005 + 1442695040888963407
	return int(*d>>33) % n
}

// near is an edge, or a number near the first cells, which drawn operations are about.
func (d *draw) near() int {
	if list := edges(); d.next(2) == 0 {
		return list[d.next(len(list))]
	}
	return d.next(6)
}

func (d *draw) page() api.Page {
	p := api.Page{Lsn: d.near()}
	for i := range p.Cells {
		p.Cells[i] = d.near()
	}
	return p
}

func (d *draw) args(count int) []int {
	args := make([]int, count)
	for i := range args {
		args[i] = d.near()
	}
	return args
}

// edges is numbers at which something may turn.
func edges() []int {
	return []int{least, least + 1, -60, -1, 0, 1, 2, 3, 59, 60, 61, greatest - 1, greatest}
}

// counted is a page whose cells are all different, and none 0: cell i has 100 + i.
func counted() api.Page {
	p := api.Page{Lsn: 4}
	for i := range p.Cells {
		p.Cells[i] = 100 + i
	}
	return p
}

// parsed is the definition of a text that must have one.
func parsed(t *testing.T, text string) api.Def {
	t.Helper()
	d, err := parse.Parse(text)
	if err != nil {
		t.Fatalf("%q: %v", text, err)
	}
	return d
}

// checkedInfo is what is found of a definition that must be checked.
func checkedInfo(t *testing.T, d api.Def) api.Info {
	t.Helper()
	info, err := check.Check(d)
	if err != nil {
		t.Fatalf("%q: %v", parse.Print(d), err)
	}
	return info
}

// A maker draws texts of operations that Check takes, if they don't take too many steps.
type maker struct {
	draw
	numbers []string // the names that are known
	truths  []string
	fresh   int
	left    int      // how many statements there may still be
	signs   []string // what may be done to a cell
	cells   bool     // whether cells are read
}

func (m *maker) pick(list ...string) string {
	return list[m.next(len(list))]
}

// name is a name that is new.
func (m *maker) name() string {
	m.fresh++
	return "n" + strconv.Itoa(m.fresh)
}

func (m *maker) number(deep int) string {
	switch choice := m.next(10); {
	case deep == 0 || choice < 3:
		list := append([]string{"0", "1", "2", "3", "59", "60", "9223372036854775807"}, m.numbers...)
		return m.pick(append(list, m.numbers...)...)
	case choice == 3:
		return "-" + m.number(deep-1)
	case choice < 6 && m.cells:
		return "[" + m.number(deep-1) + "]"
	}
	return "(" + m.number(deep-1) + m.pick("+", "-", "*", "/", "%") + m.number(deep-1) + ")"
}

func (m *maker) truth(deep int) string {
	switch choice := m.next(9); {
	case deep == 0 || choice == 0:
		return m.pick(append([]string{"true", "false"}, append(m.truths, m.truths...)...)...)
	case choice == 1:
		return "!" + m.truth(deep-1)
	case choice < 5:
		return "(" + m.truth(deep-1) + m.pick("&&", "||", "==", "!=") + m.truth(deep-1) + ")"
	}
	return "(" + m.number(deep-1) + m.pick("<", "<=", ">", ">=", "==", "!=") + m.number(deep-1) + ")"
}

func (m *maker) block(deep int) string {
	numbers, truths := len(m.numbers), len(m.truths)
	text := "{" + m.stmts(m.next(5), deep) + "}"
	m.numbers, m.truths = m.numbers[:numbers], m.truths[:truths]
	return text
}

func (m *maker) stmts(count, deep int) string {
	text := ""
	for range count {
		if m.left--; m.left >= 0 {
			text += m.stmt(deep)
		}
	}
	return text
}

func (m *maker) stmt(deep int) string {
	switch choice := m.next(12); {
	case choice == 0:
		text, name := m.truth(2), m.name()
		m.truths = append(m.truths, name)
		return "let " + name + "=" + text + ";"
	case choice < 3:
		text, name := m.number(2), m.name()
		m.numbers = append(m.numbers, name)
		return "let " + name + "=" + text + ";"
	case choice < 5 && deep > 0:
		text := "if " + m.truth(2) + m.block(deep-1)
		if m.next(2) == 0 {
			text += "else" + m.block(deep-1)
		}
		return text
	case choice < 8 && deep > 0:
		name, known := m.name(), len(m.numbers)
		m.numbers = append(m.numbers, name)
		text := "for " + name + " in 0.." + m.pick("0", "1", "2", "3", "5", "8") + m.block(deep-1)
		m.numbers = m.numbers[:known]
		return text
	}
	sign := m.pick(m.signs...)
	if sign == "<>" {
		return "[" + m.number(1) + "]<>[" + m.number(1) + "];"
	}
	return "[" + m.number(1) + "]" + sign + m.number(2) + ";"
}

// operation is the text of an operation of a name, one that is checked; turns asks for one that can be turned round, in all likelihood.
func (m *maker) operation(name string, turns bool) string {
	m.signs, m.cells = []string{"=", "+=", "-=", "<>"}, m.next(4) > 0
	if turns {
		m.signs, m.cells = []string{"+=", "-=", "<>"}, false
	}
	for {
		m.numbers, m.truths, m.fresh, m.left = nil, nil, 0, 2+m.next(14)
		for range m.next(9) {
			m.numbers = append(m.numbers, m.name())
		}
		text := "op " + name + "(" + strings.Join(m.numbers, ",") + "){"
		for range max(0, m.next(6)-3) {
			text += "need (" + m.truth(2) + "||" + m.truth(1) + ");"
		}
		text += m.stmts(1+m.next(8), 4)
		if m.next(2) == 0 {
			text += "give " + m.number(3) + ";"
		}
		if text += "}"; len(text) > api.MaxSource {
			continue
		}
		d, err := parse.Parse(text)
		if err != nil {
			continue
		}
		if _, err := check.Check(d); err == nil {
			return text
		}
	}
}
