package pool_test

import (
	"slices"
	"testing"

	"palimpsest/api"
	"palimpsest/disk"
	"palimpsest/journal"
	"palimpsest/page"
)

// P14.3: crashes, held against Dirty

// past is a pool with all that its pages ever were, the first of each ahead of the pool.
type past struct {
	*bench
	pages [][]api.Page
}

// traced is a new pool over a device, which has some pages already.
func traced(t *testing.T, d *disk.Device, j *journal.Journal, n, frames int) *past {
	t.Helper()
	b := &bench{opened(t, d, j, base, n, frames), t, d, j, n}
	p := &past{bench: b, pages: make([][]api.Page, n)}
	for number := range n {
		x, err := page.Decode(b.sector(base + number))
		if err != nil {
			t.Fatal(err)
		}
		p.pages[number] = []api.Page{x}
	}
	return p
}

// put writes a page, with a record of its own. The page is kept in mind only if it is in the pool then.
func (p *past) put(number, value int) error {
	p.t.Helper()
	x := sheet(p.logged(1), value)
	err := p.Write(number, x)
	if err == nil {
		p.pages[number] = append(p.pages[number], x)
	}
	return err
}

// outlives holds what the device has behind a crash against what was Dirty.
func (p *past) outlives(dirty []api.Dirty) {
	p.t.Helper()
	for number, list := range p.pages {
		x, err := page.Decode(p.sector(base + number))
		place := slices.Index(list, x)
		if err != nil || place < 0 {
			p.t.Fatalf("page %d: %v, %v, of %v", number, x, err, list)
		}
		at := slices.IndexFunc(dirty, func(d api.Dirty) bool { return d.Page == number })
		if at < 0 && place != len(list)-1 {
			p.t.Errorf("page %d isn't dirty, and is %v, want %v", number, x, list[len(list)-1])
		}
		for _, lost := range list[place+1:] {
			if at >= 0 && lost.Lsn < dirty[at].Lsn {
				p.t.Errorf("page %d is %v, and lacks the one of %d, but is dirty from %d on", number, x, lost.Lsn, dirty[at].Lsn)
			}
		}
	}
}

// A shape is a pool ahead of a call that is cut: some pages synced, some written out, some dirty, some all of it.
type shape struct {
	name   string
	frames int
	make   func(p *past)
}

func shapes() []shape {
	return []shape{
		{"all dirty", 4, func(p *past) {
			for number := range 4 {
				p.does("Write", p.put(number, number))
			}
		}},
		{"one dirty", 1, func(p *past) {
			p.does("Write", p.put(0, 1))
			p.does("Write", p.put(0, 2))
		}},
		{"the log flushed", 3, func(p *past) {
			for i, number := range []int{2, 0, 1, 0} {
				p.does("Write", p.put(number, i))
			}
			p.does("Flush", p.j.Flush())
		}},
		{"written out and again", 3, func(p *past) {
			for i, number := range []int{0, 1, 2, 0} {
				p.does("Write", p.put(number, i))
			}
			p.does("Flush", p.j.Flush())
			p.does("Evict", p.Evict(0))
			p.does("Evict", p.Evict(1))
			p.does("Write", p.put(0, 8))
			p.does("Write", p.put(0, 9))
		}},
		{"some synced", 2, func(p *past) {
			for i, number := range []int{0, 1, 2, 3, 1} {
				p.does("Write", p.put(number, i))
			}
			p.does("Clean", p.Clean())
			for i, number := range []int{3, 0, 0} {
				p.does("Write", p.put(number, i+5))
			}
			p.does("Flush", p.j.Flush())
			p.does("Write", p.put(3, 9))
		}},
	}
}

// calls are those that write pages out.
func calls() []way {
	list := []way{{"Clean", func(b *bench) error { return b.Clean() }}}
	for number := range 4 {
		list = append(list, way{"Evict", func(b *bench) error { return b.Evict(number) }})
		list = append(list, way{"Read", func(b *bench) error { _, err := b.Pool.Read(number); return err }})
	}
	return list
}

// cutAt makes a shape, and a call behind so many further steps.
func (s shape) cutAt(t *testing.T, w way, armed int) (*past, error) {
	t.Helper()
	d := device(t, base+5)
	p := traced(t, d, formatted(t, d), 4, s.frames)
	s.make(p)
	p.arm(armed)
	return p, w.call(p.bench)
}

func TestCallsAreCutAtEachStep(t *testing.T) {
	cuts := 0
	for _, s := range shapes() {
		for _, w := range calls() {
			for armed := 0; ; armed++ {
				p, err := s.cutAt(t, w, armed)
				if err != nil && err != api.ErrDown && err != api.ErrGone {
					t.Fatal(err)
				}
				if err == api.ErrDown {
					cuts++
				}
				for _, keep := range subsets(p.d.Unsynced()) {
					p, _ := s.cutAt(t, w, armed)
					was := p.state()
					dirty := p.Dirty()
					p.crash(keep...)
					p.outlives(dirty)
					// The pool knows what it didn't bring to the device for sure also when it is asked behind the crash.
					p.outlives(p.Dirty())
					p.frames(was.frames...)
					p.ahead()
					if t.Failed() {
						t.Fatalf("%s, %s armed with %d, kept %v", s.name, w.name, armed, keep)
					}
				}
				if err != api.ErrDown {
					break
				}
			}
		}
	}
	if cuts < 60 {
		t.Error(cuts)
	}
}

// ahead holds the pages on the device against the log that is there behind a crash.
func (p *past) ahead() {
	p.t.Helper()
	o, err := journal.Open(p.d, 0, ring)
	if err != nil {
		p.t.Fatal(err)
	}
	for number := range p.n {
		x, err := page.Decode(p.sector(base + number))
		if err != nil || x.Lsn >= o.Next() {
			p.t.Errorf("page %d on the device is of record %d, %v, the log ends ahead of %d", number, x.Lsn, err, o.Next())
		}
	}
}

// A call that was cut has left memory as it was: what was written last is read, and written out behind the crash.
func TestMemoryOutlivesACut(t *testing.T) {
	for _, s := range shapes() {
		for _, w := range calls() {
			for armed := range 6 {
				p, err := s.cutAt(t, w, armed)
				if err != api.ErrDown {
					break
				}
				frames := p.Frames()
				for _, number := range frames {
					p.reads(number, p.pages[number][len(p.pages[number])-1])
				}
				was := p.state()
				for range 3 {
					answers(t, w.name, w.call(p.bench), api.ErrDown)
				}
				p.unchanged(was)
				// The log that was cut is dead; one that isn't goes on.
				p.crash(p.d.Unsynced()...)
				if p.j.Dead() {
					continue
				}
				p.does("Clean", p.Clean())
				p.dirty()
				for number, list := range p.pages {
					p.device(number, list[len(list)-1])
				}
			}
		}
	}
}

// What answered is in force: behind a Clean nothing is dirty, and nothing is lost.
func TestCleanOutlivesACrash(t *testing.T) {
	for _, s := range shapes() {
		d := device(t, base+5)
		p := traced(t, d, formatted(t, d), 4, s.frames)
		s.make(p)
		p.does("Clean", p.Clean())
		p.dirty()
		p.crash()
		p.outlives(nil)
		p.ahead()
	}
}

// Crashes again and again, at any step and with whatever is kept, each followed by a new pool of some frames.
func TestCrashesAgainAndAgain(t *testing.T) {
	cuts, lost, clean := 0, 0, 0
	for seed := range 150 {
		draws := draw(7000 + seed)
		n := 1 + draws.next(8)
		d := device(t, base+n+1)
		p := traced(t, d, formatted(t, d), n, 1+draws.next(n))
		for round := range 12 {
			p.arm(draws.next(40))
			var err error
			for call := 0; call < 60 && err == nil; call++ {
				err = p.drawn(&draws, 100*round+call)
			}
			if err != nil {
				answers(t, "a call", err, api.ErrDown)
				cuts++
			}
			var keep []int
			for _, at := range d.Unsynced() {
				if draws.next(2) == 0 {
					keep = append(keep, at)
				}
			}
			lost += len(d.Unsynced()) - len(keep)
			dirty := p.Dirty()
			clean += n - len(dirty)
			p.crash(keep...)
			p.outlives(dirty)
			p.outlives(p.Dirty())
			p.ahead()
			j, err := journal.Open(d, 0, ring)
			if err != nil {
				t.Fatal(err)
			}
			p = traced(t, d, j, n, 1+draws.next(n))
		}
		if t.Failed() {
			t.Fatal(seed)
		}
	}
	if cuts < 1000 || lost < 500 || clean < 1000 {
		t.Error(cuts, lost, clean)
	}
}

// drawn makes some call, and answers its error, unless that is no matter of the power.
func (p *past) drawn(draws *draw, value int) error {
	p.t.Helper()
	number := draws.next(p.n)
	var err error
	switch draws.next(12) {
	case 0:
		err = p.Clean()
	case 1:
		err = p.Sync()
	case 2:
		err = p.j.Flush()
	case 3, 4:
		if err = p.Evict(number); err == api.ErrGone {
			err = nil
		}
	case 5, 6, 7:
		_, err = p.Read(number)
	default:
		err = p.put(number, value)
	}
	return err
}
