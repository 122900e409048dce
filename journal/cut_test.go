package journal_test

import (
	"slices"
	"strconv"
	"testing"

	"palimpsest/api"
	"palimpsest/disk"
	"palimpsest/journal"
)

// subsets is all choices of sectors, from none to all of them.
func subsets(of []int) [][]int {
	out := [][]int{nil}
	for _, at := range of {
		for _, some := range slices.Clone(out) {
			out = append(out, append(slices.Clone(some), at))
		}
	}
	return out
}

// shape is a journal ahead of a cut: a ring of n, records of these sizes that are flushed, the first one that isn't trimmed
// off, and the sizes of records that aren't flushed.
type shape struct {
	n     int
	old   []int
	first int
	fresh []int
}

// shapes has records that end within a piece, at its end, and over many; rings that are nearly empty, that are full to the
// last byte, and in which new pieces stand ahead of old ones.
func shapes() []shape {
	return []shape{
		{4, nil, 1, []int{1}},
		{4, []int{200, 200, 200}, 1, []int{200, 200, 200, 200}},
		{4, []int{468}, 1, []int{468, 468, 468}},
		{4, []int{466}, 1, []int{1, 469, 468}},
		{4, []int{100}, 1, []int{1776}},
		{4, []int{100, 1776}, 2, nil},
		{2, []int{300, 200}, 2, []int{100}},
		{3, []int{400, 400, 400}, 3, []int{500, 80}},
		{3, []int{700, 238}, 3, []int{1200, 1, 100}},
		{5, []int{2300}, 2, []int{10, 1500, 10, 400}},
	}
}

// recs is the shape's records from number 1 on.
func (s shape) recs() []string {
	return records(1, append(slices.Clone(s.old), s.fresh...)...)
}

// made is a journal of the shape, on a device of its own.
func (s shape) made(t *testing.T) (*disk.Device, *journal.Journal) {
	t.Helper()
	d, j := made(t, s.n)
	all := s.recs()
	appended(t, j, all[:len(s.old)]...)
	trimmed(t, j, s.first, "old")
	appended(t, j, all[len(s.old):]...)
	return d, j
}

// cut is a journal of the shape for which a call was made while only so many steps were left, and the device, which may
// have crashed since.
type cut struct {
	d   *disk.Device
	j   *journal.Journal
	err error
}

// cuts cuts a call at each step, and tells of each cut behind a crash with each choice of what is kept; last of all of the
// call that isn't cut.
func (s shape) cuts(t *testing.T, call func(j *journal.Journal) error, tell func(c cut, armed int, keep []int)) {
	t.Helper()
	for armed := 0; ; armed++ {
		c := s.cut(t, call, armed)
		if c.err != nil && (c.err != api.ErrDown || !c.d.Down()) {
			t.Fatalf("%v: armed with %d: %v", s, armed, c.err)
		}
		for _, keep := range subsets(c.d.Unsynced()) {
			c := s.cut(t, call, armed)
			c.d.Crash(keep...)
			tell(c, armed, keep)
			if t.Failed() {
				t.Fatalf("%v: armed with %d, kept %v", s, armed, keep)
			}
		}
		if c.err == nil {
			return
		}
	}
}

// cut makes a call with so many steps left.
func (s shape) cut(t *testing.T, call func(j *journal.Journal) error, armed int) cut {
	t.Helper()
	d, j := s.made(t)
	arm(t, d, armed)
	return cut{d, j, call(j)}
}

// P4.2: a Flush that is cut

func TestFlushIsCutAtEachStep(t *testing.T) {
	for _, s := range shapes() {
		all, old := s.recs(), len(s.old)
		s.cuts(t, (*journal.Journal).Flush, func(c cut, _ int, _ []int) {
			if c.err != nil {
				dead(t, c.d, c.j)
				has(t, c.j, s.first, all[s.first-1:]...)
			}
			o := opened(t, c.d, s.n)
			got := o.Next() - 1
			if got < old || got > len(all) || c.err == nil && got != len(all) {
				t.Fatalf("%d records, of %d that were flushed and %d in all, %v", got, old, len(all), c.err)
			}
			has(t, o, s.first, all[s.first-1:got]...)
			if string(o.Note()) != "old" || o.Flushed() != o.Next() || o.Booked() != 0 || o.Dead() {
				t.Errorf("note %q, flushed %d, booked %d, dead %v", o.Note(), o.Flushed(), o.Booked(), o.Dead())
			}
			// To open it once more changes nothing, nor does a crash.
			c.d.Crash()
			has(t, opened(t, c.d, s.n), s.first, all[s.first-1:got]...)
		})
	}
}

func TestFlushThatAnsweredIsInForce(t *testing.T) {
	for _, s := range shapes() {
		d, j := s.made(t)
		flushed(t, j)
		if un := d.Unsynced(); len(un) != 0 {
			t.Errorf("%v: unsynced %v", s, un)
		}
		powerless(t, d)
		d.Crash()
		has(t, opened(t, d, s.n), s.first, s.recs()[s.first-1:]...)
	}
}

func TestFlushOfNothing(t *testing.T) {
	d, j := made(t, 3)
	appended(t, j, "a")
	flushed(t, j)
	for range 3 {
		flushed(t, j)
		d.Crash()
		has(t, opened(t, d, 3), 1, "a")
	}
	// Whether such a Flush makes a step is free, but it answers by that.
	arm(t, d, 0)
	err := j.Flush()
	if (err != nil) != d.Down() || j.Dead() != d.Down() {
		t.Errorf("%v, down %v, dead %v", err, d.Down(), j.Dead())
	}
	d.Crash()
	has(t, opened(t, d, 3), 1, "a")
}

// P4.3: a Trim that is cut

func TestTrimIsCutAtEachStep(t *testing.T) {
	for _, s := range shapes() {
		all, old := s.recs(), len(s.old)
		for lsn := s.first; lsn <= len(all)+1; lsn++ {
			call := func(j *journal.Journal) error { return j.Trim(lsn, []byte("new")) }
			s.cuts(t, call, func(c cut, _ int, _ []int) {
				if c.err != nil {
					dead(t, c.d, c.j)
					has(t, c.j, s.first, all[s.first-1:]...)
				}
				o := opened(t, c.d, s.n)
				first, got := s.first, o.Next()-1
				if string(o.Note()) == "new" {
					first = lsn
				} else if c.err == nil || string(o.Note()) != "old" {
					t.Errorf("note %q", o.Note())
				}
				if got < old || got < first-1 || got > len(all) || first == lsn && lsn > s.first && got != len(all) {
					t.Fatalf("%d records, of %d that were flushed and %d in all, %v", got, old, len(all), c.err)
				}
				has(t, o, first, all[first-1:got]...)
			})
		}
	}
}

func TestTrimThatAnsweredIsInForce(t *testing.T) {
	for _, s := range shapes() {
		all := s.recs()
		for lsn := s.first; lsn <= len(all)+1; lsn++ {
			d, j := s.made(t)
			trimmed(t, j, lsn, "new")
			if un := d.Unsynced(); len(un) != 0 {
				t.Errorf("%v: unsynced %v", s, un)
			}
			powerless(t, d)
			d.Crash()
			o := opened(t, d, s.n)
			has(t, o, lsn, all[lsn-1:]...)
			rooms(t, o, j.Free(), 0)
			if string(o.Note()) != "new" {
				t.Errorf("note %q", o.Note())
			}
		}
	}
}

// A Trim that is cut may not have given away what it was to drop.
func TestTrimThatIsCutGivesNothingAway(t *testing.T) {
	s := shape{2, []int{468, 400}, 1, nil}
	call := func(j *journal.Journal) error { return j.Trim(3, []byte("new")) }
	s.cuts(t, call, func(c cut, _ int, _ []int) {
		o := opened(t, c.d, 2)
		if o.First() == 1 {
			n, err := o.Append(make([]byte, 67))
			numbers(t, "Append", n, err, 0, api.ErrLog)
			appended(t, o, record(3, 66))
			flushed(t, o)
			has(t, opened(t, c.d, 2), 1, records(1, 468, 400, 66)...)
			return
		}
		appended(t, o, record(3, 536))
		flushed(t, o)
		has(t, opened(t, c.d, 2), 3, record(3, 536))
	})
}

// P4.4: what was lost never comes again

// sizesBehind is what is appended behind a cut: records that end where lost ones did, and others.
func sizesBehind() [][]int {
	return [][]int{{1}, {200}, {200, 200, 200}, {468}, {66}, {334, 468}, {900, 1}, {69, 200, 1}}
}

func TestWhatIsAppendedStandsInPlaceOfTheLost(t *testing.T) {
	for _, s := range shapes() {
		all := s.recs()
		for _, sizes := range sizesBehind() {
			s.cuts(t, (*journal.Journal).Flush, func(c cut, _ int, _ []int) {
				o := opened(t, c.d, s.n)
				want := slices.Clone(all[s.first-1 : o.Next()-1])
				for i, size := range sizes {
					rec := record(100+i, size)
					if o.Free() < size+2 {
						n, err := o.Append([]byte(rec))
						numbers(t, "Append", n, err, 0, api.ErrLog)
						break
					}
					want = append(want, rec)
					appended(t, o, rec)
					has(t, o, s.first, want...)
					flushed(t, o)
					has(t, opened(t, c.d, s.n), s.first, want...)
				}
				c.d.Crash()
				has(t, opened(t, c.d, s.n), s.first, want...)
			})
		}
	}
}

// twice is a Flush that is cut, records behind it, and their Flush, that is cut as well.
type twice struct {
	s      shape
	armed  int
	keep   []int
	behind []string
}

// second is the second journal, its Flush cut with so many steps left, and the records that it showed when it was opened.
func (w twice) second(t *testing.T, armed int) (cut, int) {
	t.Helper()
	c := w.s.cut(t, (*journal.Journal).Flush, w.armed)
	c.d.Crash(w.keep...)
	j := opened(t, c.d, w.s.n)
	was := j.Next() - 1
	for _, rec := range w.behind {
		if j.Free() >= len(rec)+2 {
			appended(t, j, rec)
		}
	}
	arm(t, c.d, armed)
	return cut{c.d, j, j.Flush()}, was
}

// holds holds what an Open behind the second cut shows against what was there at the first one and what was appended since.
func (w twice) holds(t *testing.T, c cut, was int) {
	t.Helper()
	want := slices.Clone(w.s.recs()[w.s.first-1 : was])
	for _, rec := range w.behind {
		if len(want) < c.j.Next()-w.s.first {
			want = append(want, rec)
		}
	}
	o := opened(t, c.d, w.s.n)
	got := o.Next() - w.s.first
	if got < was+1-w.s.first || got > len(want) || c.err == nil && got != len(want) {
		t.Fatalf("%d records, of %d that were there and %d in all, %v", got, was+1-w.s.first, len(want), c.err)
	}
	has(t, o, w.s.first, want[:got]...)
	if o.Free() < 3 {
		return
	}
	appended(t, o, "!")
	flushed(t, o)
	has(t, opened(t, c.d, w.s.n), w.s.first, append(want[:got:got], "!")...)
}

func TestLostRecordsNeverComeAgain(t *testing.T) {
	for _, s := range []shape{
		{4, []int{200, 200, 200}, 1, []int{200, 200, 200, 200}},
		{4, []int{468}, 1, []int{468, 468, 468}},
		{3, []int{400, 400, 400}, 3, []int{500, 80}},
	} {
		s.cuts(t, (*journal.Journal).Flush, func(_ cut, armedFirst int, keepFirst []int) {
			for _, sizes := range [][]int{{200, 200, 200, 200}, {468, 468}, {66, 1}, {700}} {
				w := twice{s, armedFirst, keepFirst, records(100, sizes...)}
				for armed, done := 0, false; !done; armed++ {
					c, _ := w.second(t, armed)
					done = c.err == nil
					for _, keep := range subsets(c.d.Unsynced()) {
						c, was := w.second(t, armed)
						c.d.Crash(keep...)
						w.holds(t, c, was)
					}
				}
			}
		})
	}
}

func TestOpenUponOpen(t *testing.T) {
	d, j := made(t, 3)
	var want []string
	for i := range 40 {
		kept := record(i, 10+i%7)
		appended(t, j, kept)
		flushed(t, j)
		want = append(want, kept)
		// Neither of these was flushed: not by the next Flush of another journal either.
		appended(t, j, record(100+i, 10+i%5), record(200+i, 30))
		for range i % 3 {
			j = opened(t, d, 3)
			has(t, j, 1, want...)
			appended(t, j, record(100+i, 10+i%7))
		}
		d.Crash(0, 1, 2, 3, 4)
		j = opened(t, d, 3)
		has(t, j, 1, want...)
	}
}

// P4.2, P4.3, P4.4: crash upon crash, drawn by a fixed rule

// draws is numbers that look drawn, from 0 to n - 1.
func draws(seed uint64) func(n int) int {
	return func(n int) int {
		seed = seed*6364136223846793005 + 1442695040888963407
		return int((seed >> 33) % uint64(n))
	}
}

// long is what a long row of crashes should leave: the records of all numbers, how many of them are sure to be there, the
// first one and the note, and those of a Trim that was cut.
type long struct {
	recs             []string
	sure             int
	first, cutFirst  int
	note, cutNote    string
	d                *disk.Device
	j                *journal.Journal
	serial, sectors  int
	flushes, refused int
}

// adds appends some records that may or may not find room.
func (l *long) adds(t *testing.T, draw func(n int) int) {
	t.Helper()
	for range draw(4) {
		l.serial++
		size := 1 + draw([]int{4, 60, 470, 900}[draw(4)])
		rec := record(l.serial, size)
		n, err := l.j.Append([]byte(rec))
		if l.j.Dead() || err != nil && err != api.ErrLog {
			t.Fatal(err)
		}
		if err != nil {
			l.refused++
			continue
		}
		l.recs = append(l.recs, rec)
		numbers(t, "Append", n, err, len(l.recs), nil)
	}
}

// cuts makes a Flush or a Trim, which may be cut.
func (l *long) cuts(t *testing.T, draw func(n int) int) {
	t.Helper()
	l.cutFirst, l.cutNote = l.first, l.note
	if draw(4) > 0 {
		arm(t, l.d, draw(9))
	}
	call := l.j.Flush
	if draw(2) == 0 {
		l.cutFirst, l.cutNote = l.first+draw(len(l.recs)-l.first+2), "note "+strconv.Itoa(l.serial)
		call = func() error { return l.j.Trim(l.cutFirst, []byte(l.cutNote)) }
	}
	if err := call(); err == nil {
		l.flushes++
		l.sure, l.first, l.note = len(l.recs), l.cutFirst, l.cutNote
	} else if err != api.ErrDown || !l.j.Dead() || !l.d.Down() {
		t.Fatal(err)
	}
}

// crashes keeps some sectors, and holds what is there then against what should be.
func (l *long) crashes(t *testing.T, draw func(n int) int) {
	t.Helper()
	var keep []int
	for _, at := range l.d.Unsynced() {
		if draw(2) == 0 {
			keep = append(keep, at)
		}
	}
	l.d.Crash(keep...)
	l.j = opened(t, l.d, l.sectors)
	got := l.j.Next() - 1
	if got < l.sure || got > len(l.recs) {
		t.Fatalf("%d records, of %d that were flushed and %d in all", got, l.sure, len(l.recs))
	}
	if l.j.First() == l.cutFirst && string(l.j.Note()) == l.cutNote {
		l.first, l.note = l.cutFirst, l.cutNote
	}
	l.cutFirst, l.cutNote = l.first, l.note
	l.recs, l.sure = l.recs[:got], got
	has(t, l.j, l.first, l.recs[l.first-1:]...)
	if string(l.j.Note()) != l.note {
		t.Fatalf("note %q, want %q", l.j.Note(), l.note)
	}
}

func TestCrashUponCrash(t *testing.T) {
	for sectors := 2; sectors < 7; sectors++ {
		draw := draws(uint64(sectors))
		d, j := made(t, sectors)
		l := &long{first: 1, d: d, j: j, sectors: sectors}
		for i := range 1500 {
			l.adds(t, draw)
			if draw(8) > 0 {
				l.cuts(t, draw)
			}
			if l.j.Dead() || draw(3) == 0 {
				l.crashes(t, draw)
			}
			if t.Failed() {
				t.Fatalf("ring of %d, round %d", sectors, i)
			}
		}
		if l.flushes < 300 || l.refused < 20 || l.first < 300 {
			t.Errorf("ring of %d: too little was tried: %d flushes, %d refused, first %d", sectors, l.flushes, l.refused, l.first)
		}
	}
}
