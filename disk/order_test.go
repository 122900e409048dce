package disk_test

import (
	"bytes"
	"slices"
	"testing"

	"palimpsest/api"
	"palimpsest/disk"
)

// plain is a device as plainly as the document tells it: every sector twice, a flag for every word.
type plain struct {
	now, synced [][]byte
	written     []bool
	steps       int
	syncs       int
	armed, down bool
	left        int
}

func newPlain(size int) *plain {
	p := &plain{written: make([]bool, size)}
	for range size {
		p.now = append(p.now, make([]byte, 512))
		p.synced = append(p.synced, make([]byte, 512))
	}
	return p
}

func (p *plain) step() error {
	switch {
	case p.down:
		return api.ErrDown
	case p.armed && p.left == 0:
		p.down = true
		return api.ErrDown
	case p.armed:
		p.left--
	}
	p.steps++
	return nil
}

func (p *plain) write(at int, b []byte) error {
	if at < 0 || at >= len(p.now) {
		return api.ErrRange
	}
	if len(b) != 512 {
		return api.ErrForm
	}
	if err := p.step(); err != nil {
		return err
	}
	p.now[at] = bytes.Clone(b)
	p.written[at] = true
	return nil
}

func (p *plain) sync() error {
	if err := p.step(); err != nil {
		return err
	}
	p.syncs++
	p.settle()
	return nil
}

func (p *plain) settle() {
	for at := range p.now {
		p.synced[at] = p.now[at]
		p.written[at] = false
	}
}

func (p *plain) arm(n int) error {
	if n < 0 {
		return api.ErrRange
	}
	p.armed, p.left = true, n
	return nil
}

func (p *plain) crash(keep ...int) {
	for at := range p.now {
		if p.written[at] && !slices.Contains(keep, at) {
			p.now[at] = p.synced[at]
		}
	}
	p.settle()
	p.armed, p.down = false, false
}

func (p *plain) unsynced() []int {
	var out []int
	for at, w := range p.written {
		if w {
			out = append(out, at)
		}
	}
	return out
}

// same holds all that a device answers against the plain one.
func same(d *disk.Device, p *plain) bool {
	if d.Size() != len(p.now) || d.Steps() != p.steps || d.Syncs() != p.syncs || d.Down() != p.down {
		return false
	}
	if !slices.Equal(d.Unsynced(), p.unsynced()) {
		return false
	}
	for at := range p.now {
		b, err := d.Read(at)
		if p.down && (err != api.ErrDown || len(b) != 0) {
			return false
		}
		if !p.down && (err != nil || !bytes.Equal(b, p.now[at])) {
			return false
		}
	}
	return true
}

// act makes one of eleven calls on both, and tells whether they answered the same. Each call writes other bytes.
func act(d *disk.Device, p *plain, kind, mark int) bool {
	b := full(byte(mark%100 + 1))
	switch kind {
	case 0, 1:
		return d.Write(kind, b) == p.write(kind, b)
	case 2:
		return d.Sync() == p.sync()
	case 3, 4, 5:
		return d.Arm(kind-3) == p.arm(kind-3)
	case 6:
		d.Crash()
		p.crash()
	case 7, 8:
		d.Crash(kind - 7)
		p.crash(kind - 7)
	case 9:
		d.Crash(1, 0, -1, 2)
		p.crash(1, 0)
	case 10:
		return d.Write(0, b[:511]) == p.write(0, b[:511]) && d.Write(2, b) == p.write(2, b) && d.Arm(-1) == p.arm(-1)
	}
	return true
}

// TestEveryOrder: P1.1 for all rows of five of the calls.
func TestEveryOrder(t *testing.T) {
	const kinds, length = 11, 5
	total := 1
	for range length {
		total *= kinds
	}
	for n := range total {
		d, p := fresh(t, 2), newPlain(2)
		for i, rest := 0, n; i < length; i, rest = i+1, rest/kinds {
			if !act(d, p, rest%kinds, i) || !same(d, p) {
				t.Fatalf("row %d (base %d, the first one lowest), call %d", n, kinds, i)
			}
		}
	}
}

// TestLongOrders: P1.1 for long rows of calls on more sectors, drawn by a fixed rule.
func TestLongOrders(t *testing.T) {
	const size = 9
	state := uint64(1)
	draw := func(n int) int {
		state = state*6364136223846793005 + 1442695040888963407
		return int((state >> 33) % uint64(n))
	}
	d, p := fresh(t, size), newPlain(size)
	for i := range 20000 {
		ok := true
		switch draw(8) {
		case 0:
			ok = d.Sync() == p.sync()
		case 1:
			n := draw(12) - 1
			ok = d.Arm(n) == p.arm(n)
		case 2:
			var keep []int
			for range draw(size) {
				keep = append(keep, draw(size+2)-1)
			}
			d.Crash(keep...)
			p.crash(keep...)
		default:
			at, b, cut := draw(size+2)-1, full(byte(draw(200))), draw(513)
			b = b[:512-draw(20)/19]
			cut = min(cut, len(b))
			ok = d.Write(at, b[:cut], b[cut:]) == p.write(at, b)
		}
		if !ok || !same(d, p) {
			t.Fatalf("call %d", i)
		}
	}
}
