package pool_test

import (
	"slices"
	"strconv"
	"testing"

	"palimpsest/api"
	"palimpsest/disk"
	"palimpsest/journal"
	"palimpsest/page"
)

// P14.2: the log ahead of the page

// A way writes page 0, which is dirty, out of a pool of one frame.
type way struct {
	name string
	call func(b *bench) error
}

func ways() []way {
	return []way{
		{"Evict", func(b *bench) error { return b.Evict(0) }},
		{"Clean", func(b *bench) error { return b.Clean() }},
		{"Read", func(b *bench) error { _, err := b.Pool.Read(1); return err }},
		{"Write", func(b *bench) error { return b.Write(1, sheet(0, 9)) }},
		{"Pin", func(b *bench) error { return b.Pin(1) }},
	}
}

// A page is written out behind so many flushed records and so many that aren't: its Lsn against Flushed alone tells whether the log is.
func TestTheLogIsFlushedWhereAPageAsksForIt(t *testing.T) {
	for _, w := range ways() {
		for old := range 3 {
			for fresh := range 4 {
				for lsn := -2; lsn <= old+fresh+3; lsn++ {
					writtenOut(t, w, old, fresh, lsn)
				}
			}
		}
	}
}

func writtenOut(t *testing.T, w way, old, fresh, lsn int) {
	t.Helper()
	b := made(t, 2, 1)
	b.logged(old)
	b.does("Flush", b.j.Flush())
	b.logged(fresh)
	x := sheet(lsn, 3)
	b.does("Write", b.Write(0, x))
	b.device(0, api.Page{})
	flushed := b.j.Flushed()
	what := w.name + " behind " + strconv.Itoa(old) + " and " + strconv.Itoa(fresh) + " records of a page of " + strconv.Itoa(lsn)
	b.does(what, w.call(b))
	b.device(0, x)
	want := old + 1
	if lsn >= flushed {
		want += fresh
	}
	if got := b.j.Flushed(); got != want {
		t.Errorf("%s: flushed %d, want %d", what, got, want)
	}
}

// The edge by hand: flushed up to 3, records up to 5.
func TestLsnsAtFlushed(t *testing.T) {
	for _, w := range ways() {
		for lsn, want := range map[int]int{1: 3, 2: 3, 3: 6, 4: 6, 5: 6, 6: 6} {
			b := made(t, 2, 1)
			b.logged(2)
			b.does("Flush", b.j.Flush())
			b.logged(3)
			b.does("Write", b.Write(0, sheet(lsn, 1)))
			b.does(w.name, w.call(b))
			if got := b.j.Flushed(); got != want {
				t.Errorf("%s of %d: flushed %d, want %d", w.name, lsn, got, want)
			}
		}
	}
}

// It is the page as it is that counts, not its first Write.
func TestTheLastWriteAsksForTheLog(t *testing.T) {
	for _, w := range ways() {
		b := made(t, 2, 1)
		b.changed(0, 1)
		b.does("Flush", b.j.Flush())
		x := b.changed(0, 2)
		b.dirty(0, 1)
		b.does(w.name, w.call(b))
		if b.j.Flushed() != 3 {
			t.Errorf("%s: flushed %d", w.name, b.j.Flushed())
		}
		b.device(0, x)
	}
}

// What is clean asks for nothing, whatever its Lsn.
func TestCleanPagesAskForNoLog(t *testing.T) {
	for _, w := range ways() {
		b := made(t, 2, 1)
		b.logged(2)
		b.lay(base, page.Encode(sheet(2, 2)))
		b.reads(0, sheet(2, 2))
		steps := b.d.Steps()
		b.does(w.name, w.call(b))
		if b.j.Flushed() != 1 || w.name != "Clean" && b.d.Steps() != steps {
			t.Errorf("%s: flushed %d", w.name, b.j.Flushed())
		}
	}
}

// At each step at which the power may go, and whatever is kept then, a log that is opened again has the record of each page that the
// device has; and the page has what it had, or what it was to have.
func TestTheLogIsAheadAtEachStep(t *testing.T) {
	for _, w := range ways() {
		cuts := 0
		for armed := 0; ; armed++ {
			make := func() (*bench, api.Page, error) {
				b := made(t, 2, 1)
				b.changed(0, 1)
				b.does("Clean", b.Clean())
				b.logged(1)
				x := b.changed(0, 2)
				b.logged(1)
				b.arm(armed)
				return b, x, w.call(b)
			}
			b, x, err := make()
			if err != nil {
				answers(t, w.name, err, api.ErrDown)
				cuts++
			}
			for _, keep := range subsets(b.d.Unsynced()) {
				b, _, _ := make()
				b.crash(keep...)
				outlived(b, err, keep, x)
			}
			if err == nil {
				break
			}
		}
		if cuts < 3 {
			t.Errorf("%s was cut %d times", w.name, cuts)
		}
	}
}

// outlived holds page 0 on the device against the log behind a crash.
func outlived(b *bench, err error, keep []int, x api.Page) {
	b.t.Helper()
	o, failed := journal.Open(b.d, 0, ring)
	if failed != nil {
		b.t.Fatal(failed)
	}
	got, failed := page.Decode(b.sector(base))
	if failed != nil || got != x && got != sheet(1, 1) {
		b.t.Fatalf("kept %v: %v, %v", keep, got, failed)
	}
	if got.Lsn >= o.Next() {
		b.t.Errorf("kept %v: the device has a page of %d, the log records below %d", keep, got.Lsn, o.Next())
	}
	if err == nil && slices.Contains(keep, base) && got != x {
		b.t.Errorf("kept %v: it isn't written", keep)
	}
}

// subsets is all choices of sectors, from none to all of them.
func subsets(of []int) [][]int {
	out := [][]int{nil}
	for _, at := range of {
		for _, some := range slices.Clone(out) {
			out = append(out, append(slices.Clone(some), at))
		}
	}
	return out
}

func (b *bench) crash(keep ...int) {
	b.t.Helper()
	b.d.Crash(keep...)
	if b.d.Down() {
		b.t.Fatal("no power")
	}
}

// The log may stand on another device, which has a power of its own.
func TestTheLogOnAnotherDevice(t *testing.T) {
	other := device(t, ring+2)
	j, err := journal.Format(other, 0, ring)
	if err != nil {
		t.Fatal(err)
	}
	d, err := disk.New(base + 2)
	if err != nil {
		t.Fatal(err)
	}
	b := &bench{opened(t, d, j, base, 2, 1), t, d, j, 2}
	x := b.changed(0, 1)
	if err := other.Arm(0); err != nil {
		t.Fatal(err)
	}
	answers(t, "Evict", b.Evict(0), api.ErrDown)
	b.device(0, api.Page{})
	b.frames(0)
	b.dirty(0, 1)
	if d.Steps() != 0 {
		t.Error("the page is ahead of the log")
	}
	other.Crash()
	j, err = journal.Open(other, 0, ring)
	if err != nil {
		t.Fatal(err)
	}
	b = &bench{opened(t, d, j, base, 2, 1), t, d, j, 2}
	x = b.changed(0, 2)
	b.does("Evict", b.Evict(0))
	b.device(0, x)
	// That device's syncs are none of this one's.
	b.logged(1)
	b.does("Flush", j.Flush())
	b.dirty(0, 1)
	b.does("Sync", b.Sync())
	b.dirty()
}
