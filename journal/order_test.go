package journal_test

import (
	"strconv"
	"testing"

	"palimpsest/api"
	"palimpsest/disk"
	"palimpsest/journal"
)

// ringSize is how many sectors the rings of these tests have.
const ringSize = 3

// plain is a journal as plainly as the document tells it. How many steps a call makes is free: where the power goes, it goes
// by what the real one answers.
type plain struct {
	recs    []string // of all numbers, from 1 on
	first   int
	flushed int
	note    string
	booked  int
	dead    bool
	// what a Trim that was cut may have left, behind an Open
	cutFirst int
	cutNote  string
}

func blankPlain() *plain { return &plain{first: 1, flushed: 1, cutFirst: 1} }

func (p *plain) next() int { return len(p.recs) + 1 }

func (p *plain) free() int {
	end, begin := 0, 0
	for i, rec := range p.recs {
		if i+1 == p.first {
			begin = end
		}
		end += len(rec) + 2
	}
	if p.first == p.next() {
		begin = end
	}
	return 470*ringSize - (end - begin/470*470)
}

func (p *plain) add(rec string, room int) (int, error) {
	switch {
	case p.dead:
		return 0, api.ErrDown
	case len(rec) < 1 || len(rec) > 4096:
		return 0, api.ErrForm
	case room < len(rec)+2:
		return 0, api.ErrLog
	}
	p.recs = append(p.recs, rec)
	return len(p.recs), nil
}

func (p *plain) book(n int) error {
	switch {
	case n < 0:
		return api.ErrRange
	case p.free()-p.booked < n:
		return api.ErrLog
	}
	p.booked += n
	return nil
}

func (p *plain) unbook(n int) {
	if n >= 0 {
		p.booked = max(0, p.booked-n)
	}
}

// flush tells whether a Flush may answer so; the power was gone ahead of it, and is gone behind it, as told.
func (p *plain) flush(err error, was, is bool) bool {
	if p.dead {
		return err == api.ErrDown
	}
	if err == nil {
		p.flushed = p.next()
		return !was && !is
	}
	p.dead = true
	return err == api.ErrDown && is
}

// trim tells whether a Trim may answer so, behind which the real journal says it has flushed up to a number.
func (p *plain) trim(lsn int, note string, err error, was, is bool, flushed int) bool {
	switch {
	case p.dead:
		return err == api.ErrDown
	case lsn < p.first || lsn > p.next():
		return err == api.ErrRange
	case len(note) > 400:
		return err == api.ErrForm
	}
	if !p.flush(err, was, is) {
		return false
	}
	p.cutFirst, p.cutNote = lsn, note
	if err == nil {
		p.first, p.note = lsn, note
	} else if flushed == p.next() {
		p.flushed = flushed
	}
	return true
}

// open tells whether an Open may show this journal: only one that is dead may have flushed more than it knows.
func (p *plain) open(j *journal.Journal) bool {
	if j.Next() < p.flushed || j.Next() > p.next() || !p.dead && j.Next() != p.flushed {
		return false
	}
	if p.dead && j.First() == p.cutFirst && string(j.Note()) == p.cutNote {
		p.first, p.note = p.cutFirst, p.cutNote
	}
	p.recs, p.flushed = p.recs[:j.Next()-1], j.Next()
	p.booked, p.dead, p.cutFirst, p.cutNote = 0, false, p.first, p.note
	return true
}

// same holds a journal against the plain one.
func (p *plain) same(j *journal.Journal) bool {
	if j.First() != p.first || j.Next() != p.next() || j.Flushed() != p.flushed || string(j.Note()) != p.note {
		return false
	}
	if j.Free() != p.free() || j.Booked() != p.booked || j.Dead() != p.dead {
		return false
	}
	for lsn := p.first - 1; lsn <= p.next(); lsn++ {
		b, err := j.Get(lsn)
		there := lsn >= p.first && lsn < p.next()
		if there && (err != nil || string(b) != p.recs[lsn-1]) || !there && (err != api.ErrGone || len(b) != 0) {
			return false
		}
	}
	return true
}

// both is a journal beside the plain one.
type both struct {
	d *disk.Device
	j *journal.Journal
	p *plain
}

// appends appends or spends a record on both.
func (b *both) appends(rec string, spend bool) bool {
	room, add := b.p.free()-b.p.booked, b.j.Append
	if spend {
		room, add = b.p.free(), b.j.Spend
	}
	want, wantErr := b.p.add(rec, room)
	n, err := add([]byte(rec))
	return n == want && err == wantErr
}

func (b *both) flushes() bool {
	was := b.d.Down()
	return b.p.flush(b.j.Flush(), was, b.d.Down())
}

func (b *both) trims(lsn int, note string) bool {
	was := b.d.Down()
	err := b.j.Trim(lsn, []byte(note))
	return b.p.trim(lsn, note, err, was, b.d.Down(), b.j.Flushed())
}

func (b *both) opens() bool {
	j, err := journal.Open(b.d, 0, ringSize)
	if err != nil {
		return j == nil && err == api.ErrDown && b.d.Down()
	}
	b.j = j
	return b.p.open(j)
}

// formats formats; where that is cut, once more behind a crash, since what is there in between is free.
func (b *both) formats() bool {
	j, err := journal.Format(b.d, 0, ringSize)
	if err != nil {
		if j != nil || err != api.ErrDown || !b.d.Down() {
			return false
		}
		b.d.Crash(b.d.Unsynced()...)
		j, err = journal.Format(b.d, 0, ringSize)
	}
	b.j, b.p = j, blankPlain()
	return err == nil
}

// crashes crashes, and keeps none of the sectors, all, or every second one.
func (b *both) crashes(kind int) bool {
	var keep []int
	for i, at := range b.d.Unsynced() {
		if kind == 1 || kind > 1 && i%2 == kind%2 {
			keep = append(keep, at)
		}
	}
	b.d.Crash(keep...)
	return true
}

const kinds = 26

// act makes one of the calls on both, and tells whether they answered the same. Each call has another record.
func (b *both) act(kind, mark int) bool {
	switch kind {
	case 0, 1, 2, 3:
		return b.appends(record(mark, []int{1, 200, 468, 900}[kind]), false)
	case 4, 5:
		return b.appends(record(mark, []int{300, 60}[kind-4]), true)
	case 6, 7:
		return b.appends(record(mark, 4097*(kind-6)), kind == 6)
	case 8, 9, 10:
		n := []int{300, 0, -1}[kind-8]
		return b.j.Book(n) == b.p.book(n)
	case 11, 12:
		n := []int{100, -1}[kind-11]
		b.j.Unbook(n)
		b.p.unbook(n)
		return true
	case 13:
		return b.flushes()
	case 14, 15, 16, 17:
		lsn := []int{b.p.first, b.p.first + 1, b.p.next(), b.p.first - 1}[kind-14]
		return b.trims(lsn, strconv.Itoa(mark))
	case 18:
		return b.trims(b.p.next(), record(mark, 401))
	case 19:
		return b.opens()
	case 20, 21:
		return b.d.Arm(kind*5-100) == nil
	case 22, 23, 24:
		return b.crashes(kind - 22)
	}
	return b.formats()
}

// TestEveryOrder: P4.1 for all rows of three of the calls, behind calls that leave records, some of them flushed, and a
// booking, with the power going at the third step from then on, or not at all.
func TestEveryOrder(t *testing.T) {
	for n := range kinds * kinds * kinds * 2 {
		d, j := made(t, ringSize)
		b := &both{d, j, blankPlain()}
		row := []int{0, 2, 13, 15, 1, 8, n / 2, n / 2 / kinds, n / 2 / kinds / kinds}
		for i, kind := range row {
			if i == 6 && n%2 == 1 {
				arm(t, d, 3)
			}
			if !b.act(kind%kinds, i) || !b.p.same(b.j) {
				t.Fatalf("row %d of calls %v (modulo %d), call %d", n, row, kinds, i)
			}
		}
	}
}

// TestLongOrders: P4.1 for long rows of calls, drawn by a fixed rule.
func TestLongOrders(t *testing.T) {
	draw := draws(9)
	for row := range 100 {
		d, j := made(t, ringSize)
		b := &both{d, j, blankPlain()}
		for i := range 400 {
			kind := draw(kinds + 12)
			if kind >= kinds {
				kind = []int{0, 1, 13, 15}[kind%4]
			}
			if kind == kinds-1 && draw(4) > 0 {
				kind = 19
			}
			if !b.act(kind, i) || !b.p.same(b.j) {
				t.Fatalf("row %d, call %d, of kind %d", row, i, kind)
			}
		}
	}
}
