package slot_test

import (
	"strconv"
	"testing"

	"palimpsest/api"
	"palimpsest/disk"
	"palimpsest/slot"
)

// cell is what a sector has: a row with its number, or nothing (number 0).
type cell struct {
	n   int
	row string
}

// plain is slots and their two sectors as plainly as the document tells them.
type plain struct {
	now, synced [2]cell
	written     [2]bool
	armed, down bool
	left        int
	// what the slots hold; there are none if have.n is 0
	have cell
	dead bool
}

func (p *plain) step() bool {
	if p.armed && p.left == 0 {
		p.down = true
	}
	if p.down {
		return false
	}
	p.left--
	return true
}

func (p *plain) write(at int, c cell) bool {
	if !p.step() {
		return false
	}
	p.now[at], p.written[at] = c, true
	return true
}

func (p *plain) sync() bool {
	if !p.step() {
		return false
	}
	p.synced, p.written = p.now, [2]bool{}
	return true
}

func (p *plain) format(row string) error {
	switch {
	case len(row) > 480:
		return api.ErrForm
	case !p.write(0, cell{}) || !p.write(1, cell{1, row}) || !p.sync():
		return api.ErrDown
	}
	p.have, p.dead = cell{1, row}, false
	return nil
}

func (p *plain) open() error {
	if p.down {
		return api.ErrDown
	}
	best := p.now[0]
	if p.now[1].n > best.n {
		best = p.now[1]
	}
	if best.n == 0 {
		return api.ErrBlank
	}
	p.have, p.dead = best, false
	return nil
}

func (p *plain) save(row string) error {
	switch {
	case p.have.n == 0:
		return api.ErrDown
	case len(row) > 480:
		return api.ErrForm
	case p.dead:
		return api.ErrDown
	}
	next := cell{p.have.n + 1, row}
	if !p.write(next.n%2, next) || !p.sync() {
		p.dead = true
		return api.ErrDown
	}
	p.have = next
	return nil
}

func (p *plain) crash(keep ...int) {
	for at := range p.now {
		if p.written[at] && !keeping(keep, at) {
			p.now[at] = p.synced[at]
		}
	}
	p.synced, p.written = p.now, [2]bool{}
	p.armed, p.down = false, false
}

// real is slots beside the plain ones, on a device of two sectors.
type real struct {
	d *disk.Device
	s *slot.Slots
}

// took takes the slots that Format or Open answered, if they answered any; beside an error there must be none.
func (r *real) took(s *slot.Slots, err error) error {
	if (s == nil) != (err != nil) {
		return api.ErrThere
	}
	if err == nil {
		r.s = s
	}
	return err
}

// act makes one of thirteen calls on both, and tells whether they answered the same. Each call has another row.
func act(r *real, p *plain, kind, mark int) bool {
	row := "r" + strconv.Itoa(mark)
	switch kind {
	case 0:
		return r.s.Save([]byte(row)) == p.save(row)
	case 1:
		return r.s.Save([]byte(long(480))) == p.save(long(480))
	case 2:
		return r.s.Save([]byte(long(481))) == p.save(long(481))
	case 3:
		return r.took(slot.Format(r.d, 0, []byte(row))) == p.format(row)
	case 4:
		return r.took(slot.Format(r.d, 0, []byte(long(481)))) == p.format(long(481))
	case 5:
		return r.took(slot.Open(r.d, 0)) == p.open()
	case 6, 7, 8:
		p.armed, p.left = true, kind-6
		return r.d.Arm(kind-6) == nil
	}
	keep := keeps(0)[kind-9]
	r.d.Crash(keep...)
	p.crash(keep...)
	return true
}

const kinds = 13

// same holds what the slots answer against the plain ones.
func same(r *real, p *plain) bool {
	return r.s.Number() == p.have.n && string(r.s.Row()) == p.have.row && r.d.Down() == p.down
}

// TestEveryOrder: P3.1 for all rows of four of the calls, behind a Format and two Saves.
func TestEveryOrder(t *testing.T) {
	const length = 4
	total := 1
	for range length {
		total *= kinds
	}
	for n := range total {
		r, p := &real{d: device(t, 2)}, &plain{}
		for i, kind := range []int{3, 0, 1, n, n / kinds, n / kinds / kinds, n / kinds / kinds / kinds} {
			if !act(r, p, kind%kinds, i) || !same(r, p) {
				t.Fatalf("row %d (base %d, the first one lowest), call %d", n, kinds, i)
			}
		}
	}
}

// TestLongOrders: P3.1 for long rows of calls, drawn by a fixed rule, from no slots on.
func TestLongOrders(t *testing.T) {
	state := uint64(5)
	draw := func(n int) int {
		state = state*6364136223846793005 + 1442695040888963407
		return int((state >> 33) % uint64(n))
	}
	for range 200 {
		r, p := &real{d: device(t, 2)}, &plain{}
		for i := range 200 {
			kind := draw(kinds + 4)
			if kind >= kinds {
				kind = 0
			}
			if !act(r, p, kind, i) || !same(r, p) {
				t.Fatalf("call %d, of kind %d", i, kind)
			}
		}
	}
}
