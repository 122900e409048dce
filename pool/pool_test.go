package pool_test

import (
	"bytes"
	"math"
	"slices"
	"testing"

	"palimpsest/api"
	"palimpsest/disk"
	"palimpsest/journal"
	"palimpsest/page"
	"palimpsest/pool"
)

// The calls must have just these signatures: the layers above are built on them.
var (
	_       func(d *disk.Device, j *journal.Journal, at, n, frames int) (*pool.Pool, error) = pool.New
	_       func(p *pool.Pool, page int) (api.Page, error)                                  = (*pool.Pool).Read
	_       func(p *pool.Pool, page int, x api.Page) error                                  = (*pool.Pool).Write
	_, _, _ func(p *pool.Pool, page int) error                                              = (*pool.Pool).Pin, (*pool.Pool).Unpin, (*pool.Pool).Evict
	_, _    func(p *pool.Pool) error                                                        = (*pool.Pool).Clean, (*pool.Pool).Sync
	_       func(p *pool.Pool) []api.Dirty                                                  = (*pool.Pool).Dirty
	_       func(p *pool.Pool) []int                                                        = (*pool.Pool).Frames
	_       func(p *pool.Pool) int                                                          = (*pool.Pool).Len
)

const (
	least    = math.MinInt
	greatest = math.MaxInt

	ring = 8        // sectors of the log, behind its two slots
	base = ring + 3 // the sector of page 0; the one ahead of it is nobody's, as is the one behind the last page
)

// bench is a pool with its device and its log.
type bench struct {
	*pool.Pool
	t *testing.T
	d *disk.Device
	j *journal.Journal
	n int
}

func device(t *testing.T, size int) *disk.Device {
	t.Helper()
	d, err := disk.New(size)
	if err != nil {
		t.Fatal(err)
	}
	return d
}

func formatted(t *testing.T, d *disk.Device) *journal.Journal {
	t.Helper()
	j, err := journal.Format(d, 0, ring)
	if err != nil {
		t.Fatal(err)
	}
	return j
}

// opened is a pool that must be made.
func opened(t *testing.T, d *disk.Device, j *journal.Journal, at, n, frames int) *pool.Pool {
	t.Helper()
	p, err := pool.New(d, j, at, n, frames)
	if err != nil || p == nil {
		t.Fatalf("New(%d, %d, %d): %v, %v", at, n, frames, p, err)
	}
	return p
}

// made is a pool of n pages on a new device.
func made(t *testing.T, n, frames int) *bench {
	t.Helper()
	d := device(t, base+n+1)
	j := formatted(t, d)
	return &bench{opened(t, d, j, base, n, frames), t, d, j, n}
}

// sheet is a page whose cells are all of one number, and none of another one's.
func sheet(lsn, value int) api.Page {
	x := api.Page{Lsn: lsn}
	for i := range x.Cells {
		x.Cells[i] = value*100 + i
	}
	return x
}

// logged appends so many records, and answers the last one's number.
func (b *bench) logged(count int) int {
	b.t.Helper()
	for range count {
		if _, err := b.j.Append([]byte("r")); err != nil {
			b.t.Fatal(err)
		}
	}
	return b.j.Next() - 1
}

// changed writes a page with a record of its own, which must be done, and answers what it is then.
func (b *bench) changed(number, value int) api.Page {
	b.t.Helper()
	x := sheet(b.logged(1), value)
	b.does("Write", b.Write(number, x))
	return x
}

// does tells of a call that must be done and isn't.
func (b *bench) does(what string, err error) {
	b.t.Helper()
	answers(b.t, what, err, nil)
}

func answers(t *testing.T, what string, err, want error) {
	t.Helper()
	if err != want {
		t.Errorf("%s: %v, want %v", what, err, want)
	}
}

// reads holds what a Read answers against what it must.
func (b *bench) reads(number int, want api.Page) {
	b.t.Helper()
	if x, err := b.Read(number); x != want || err != nil {
		b.t.Errorf("Read(%d): %v, %v, want %v", number, x, err, want)
	}
}

// refuses holds calls that bring a page against the error that they must answer.
func (b *bench) refuses(number int, want error) {
	b.t.Helper()
	x, err := b.Read(number)
	answers(b.t, "Read", err, want)
	if x != (api.Page{}) {
		b.t.Error("a page beside an error")
	}
	answers(b.t, "Write", b.Write(number, sheet(1, 77)), want)
	answers(b.t, "Pin", b.Pin(number), want)
}

// dirty holds Dirty against pairs of a page and its Lsn.
func (b *bench) dirty(pairs ...int) {
	b.t.Helper()
	var want []api.Dirty
	for pair := range slices.Chunk(pairs, 2) {
		want = append(want, api.Dirty{Page: pair[0], Lsn: pair[1]})
	}
	if got := b.Dirty(); !slices.Equal(got, want) {
		b.t.Errorf("Dirty: %v, want %v", got, want)
	}
}

func (b *bench) frames(want ...int) {
	b.t.Helper()
	if got := b.Frames(); !slices.Equal(got, want) {
		b.t.Errorf("Frames: %v, want %v", got, want)
	}
}

// sector is the bytes of a sector, which must be readable.
func (b *bench) sector(at int) []byte {
	b.t.Helper()
	bytes, err := b.d.Read(at)
	if err != nil {
		b.t.Fatal(err)
	}
	return bytes
}

// device holds what the device has of a page against what it must.
func (b *bench) device(number int, want api.Page) {
	b.t.Helper()
	if x, err := page.Decode(b.sector(base + number)); x != want || err != nil {
		b.t.Errorf("page %d on the device: %v, %v, want %v", number, x, err, want)
	}
}

// lay writes bytes into a sector.
func (b *bench) lay(at int, bytes []byte) {
	b.t.Helper()
	if err := b.d.Write(at, bytes); err != nil {
		b.t.Fatal(err)
	}
}

// junk is a sector that is no page's.
func junk() []byte {
	return bytes.Repeat([]byte{7}, 512)
}

func (b *bench) arm(n int) {
	b.t.Helper()
	if err := b.d.Arm(n); err != nil {
		b.t.Fatal(err)
	}
}

// powerless lets the power go.
func (b *bench) powerless() {
	b.t.Helper()
	b.arm(0)
	if err := b.d.Sync(); err != api.ErrDown || !b.d.Down() {
		b.t.Fatal(err)
	}
}

// P14.1: New

func TestNewAtItsEdges(t *testing.T) {
	type call struct{ size, at, n, frames int }
	good := []call{
		{1, 0, 1, 1}, {1, 0, 1, 2}, {1, 0, 1, 64}, {2, 0, 2, 1}, {2, 0, 1, 1}, {2, 1, 1, 1}, {9, 4, 5, 5}, {100, 36, 64, 63},
		{1024, 0, 1024, 64}, {1025, 1, 1024, 1}, {4096, 3072, 1024, 64}, {4096, 4095, 1, 64}, {4096, 0, 1024, 64}, {4096, 0, 1023, 64},
	}
	for _, c := range good {
		p := opened(t, device(t, c.size), nil, c.at, c.n, c.frames)
		if p.Len() != c.n || len(p.Frames()) != 0 || len(p.Dirty()) != 0 {
			t.Errorf("%v: %d, %v, %v", c, p.Len(), p.Frames(), p.Dirty())
		}
	}
	bad := []call{
		{1, 0, 0, 1}, {1, 0, -1, 1}, {1, 0, 1, 0}, {1, 0, 1, -1}, {1, 0, 1, 65}, {1, 0, 2, 1}, {1, 1, 1, 1}, {1, -1, 1, 1}, {2, -1, 1, 1}, {2, -1, 2, 1}, {2, 1, 2, 1},
		{2, 2, 1, 1}, {4096, 0, 1025, 64}, {4096, 3073, 1024, 64}, {4096, 4096, 1, 1}, {4096, 0, 1024, 65}, {4096, 0, 0, 64}, {1023, 0, 1024, 64}, {1024, 1, 1024, 64},
	}
	for _, edge := range []int{least, least + 1, greatest - 1, greatest} {
		bad = append(bad, call{9, edge, 1, 1}, call{9, 0, edge, 1}, call{9, 0, 1, edge}, call{9, edge, edge, edge}, call{9, edge, 9, 9}, call{9, edge, 1024, 9})
	}
	for _, c := range bad {
		p, err := pool.New(device(t, c.size), nil, c.at, c.n, c.frames)
		answers(t, "New", err, api.ErrRange)
		if p != nil {
			t.Errorf("%v: a pool beside an error", c)
		}
	}
	if p, err := pool.New(nil, nil, 0, 1, 1); p != nil || err != api.ErrRange {
		t.Error(p, err)
	}
}

func TestNewNeedsNothingOfTheDevice(t *testing.T) {
	d := device(t, base+4)
	j := formatted(t, d)
	for at := range 4 {
		if err := d.Write(base+at, junk()); err != nil {
			t.Fatal(err)
		}
	}
	steps := d.Steps()
	if err := d.Arm(0); err != nil {
		t.Fatal(err)
	}
	b := &bench{opened(t, d, j, base, 4, 2), t, d, j, 4}
	b.frames()
	b.dirty()
	if d.Steps() != steps || d.Down() {
		t.Error("New makes steps")
	}
	b.powerless()
	opened(t, d, j, base, 4, 2)
}

// P14.1: what the chapter tells as examples

func TestExamples(t *testing.T) {
	b := made(t, 3, 1)
	x := b.changed(0, 5)
	b.dirty(0, 1)
	b.reads(1, api.Page{})
	b.device(0, x)
	if b.j.Flushed() != 2 {
		t.Error("the log isn't ahead of the page")
	}
	b.frames(1)
	b.dirty(0, 1)
	b.does("Sync", b.Sync())
	b.dirty()
	b.does("Pin", b.Pin(1))
	b.refuses(0, api.ErrPool)
	b.frames(1)
}

// P14.1: Read and Write

func TestReadsAndWrites(t *testing.T) {
	for frames := 1; frames <= 6; frames++ {
		b := made(t, 5, frames)
		want := make([]api.Page, 5)
		for number := range 5 {
			b.reads(number, api.Page{})
		}
		for round := range 4 {
			for number := range 5 {
				want[number] = b.changed(number, 10*round+number+1)
				b.reads(number, want[number])
			}
			for number := range 5 {
				b.reads(number, want[number])
				b.reads(4-number, want[4-number])
			}
			b.does("Clean", b.Clean())
			for number := range 5 {
				b.device(number, want[number])
				b.reads(number, want[number])
			}
		}
	}
}

// P14.1: a page is a sector of its own; those around the pages are nobody's
func TestPagesStandInTheirSectors(t *testing.T) {
	b := made(t, 3, 2)
	around := bytes.Repeat([]byte{9}, 512)
	b.lay(base-1, around)
	b.lay(base+3, around)
	for number := range 3 {
		x := b.changed(number, number+4)
		b.does("Evict", b.Evict(number))
		if !bytes.Equal(b.sector(base+number), page.Encode(x)) {
			t.Error("the sector isn't the page's")
		}
	}
	if !bytes.Equal(b.sector(base-1), around) || !bytes.Equal(b.sector(base+3), around) {
		t.Error("other sectors are written")
	}
}

// P14.1: what was on the device ahead of the pool
func TestReadsOfWhatIsOnTheDevice(t *testing.T) {
	b := made(t, 4, 2)
	for number := range 3 {
		b.lay(base+number, page.Encode(sheet(number-1, number+3)))
	}
	for range 2 {
		for number := range 3 {
			b.reads(number, sheet(number-1, number+3))
		}
		b.reads(3, api.Page{})
	}
	b.dirty()
	// A page in memory isn't read again.
	b.lay(base+3, junk())
	b.reads(3, api.Page{})
	b.does("Evict", b.Evict(3))
	b.refuses(3, api.ErrBox)
	b.lay(base+3, page.Encode(sheet(4, 4)))
	b.reads(3, sheet(4, 4))
}

// P14.1: the greatest pool there may be, and pages that there aren't
func TestPagesAtTheEdges(t *testing.T) {
	for _, n := range []int{1, 2, 64, 65, 1024} {
		for _, frames := range []int{1, 63, 64} {
			b := made(t, n, frames)
			for _, number := range []int{-1, n, n + 1, -n, 1024, least, greatest} {
				b.refuses(number, api.ErrRange)
				answers(t, "Unpin", b.Unpin(number), api.ErrRange)
				answers(t, "Evict", b.Evict(number), api.ErrRange)
			}
			b.frames()
			b.dirty()
			first, last := b.changed(0, 3), b.changed(n-1, 4)
			if n == 1 {
				first = last
			}
			for number := range n {
				if number > 0 && number < n-1 {
					b.reads(number, api.Page{})
				}
			}
			b.reads(0, first)
			b.reads(n-1, last)
			if got := len(b.Frames()); got != min(n, frames) {
				t.Errorf("%d pages, %d frames: %d in memory", n, frames, got)
			}
			if b.Len() != n {
				t.Error(b.Len())
			}
		}
	}
}

// P14.1: a sector that is no page's
func TestSectorsOfNoPage(t *testing.T) {
	long := page.Encode(sheet(3, 3))
	long[511] ^= 1
	for _, bad := range [][]byte{junk(), long, append(make([]byte, 511), 1), append([]byte{1}, make([]byte, 511)...)} {
		b := made(t, 3, 2)
		b.lay(base+1, bad)
		b.reads(0, api.Page{})
		for range 3 {
			b.refuses(1, api.ErrBox)
			b.frames(0)
			b.dirty()
		}
		answers(t, "Unpin", b.Unpin(1), api.ErrGone)
		answers(t, "Evict", b.Evict(1), api.ErrGone)
		if !bytes.Equal(b.sector(base+1), bad) {
			t.Error("the sector is written")
		}
		// What is there then is the page.
		b.lay(base+1, page.Encode(sheet(5, 6)))
		b.reads(1, sheet(5, 6))
		b.frames(0, 1)
	}
}

// P14.1: a page that can't be read costs none in memory its frame, though it may be written out for it
func TestSectorsOfNoPageWithoutRoom(t *testing.T) {
	b := made(t, 4, 2)
	b.lay(base+3, junk())
	x := b.changed(0, 1)
	b.reads(1, api.Page{})
	b.refuses(3, api.ErrBox)
	b.frames(0, 1)
	b.dirty(0, 1)
	b.device(0, x)
	b.lay(base, junk())
	b.reads(0, x)
	b.reads(1, api.Page{})
}

// P14.4: pins

func TestPins(t *testing.T) {
	b := made(t, 4, 2)
	answers(t, "Unpin", b.Unpin(0), api.ErrGone)
	b.reads(0, api.Page{})
	answers(t, "Unpin", b.Unpin(0), api.ErrGone)
	b.does("Pin", b.Pin(0))
	b.does("Pin", b.Pin(0))
	b.reads(1, api.Page{})
	// Only the other frame is there for others.
	for _, number := range []int{2, 3, 1, 2} {
		b.reads(number, api.Page{})
		b.frames(0, number)
	}
	answers(t, "Evict", b.Evict(0), api.ErrPool)
	b.does("Unpin", b.Unpin(0))
	answers(t, "Evict", b.Evict(0), api.ErrPool)
	b.does("Pin", b.Pin(2))
	b.refuses(1, api.ErrPool)
	b.refuses(3, api.ErrPool)
	b.frames(0, 2)
	// What is in memory can be read, written and pinned all the same.
	x := b.changed(0, 5)
	b.reads(0, x)
	b.does("Pin", b.Pin(2))
	for range 2 {
		b.does("Unpin", b.Unpin(2))
	}
	answers(t, "Unpin", b.Unpin(2), api.ErrGone)
	b.reads(3, api.Page{})
	b.frames(0, 3)
	b.does("Unpin", b.Unpin(0))
	answers(t, "Unpin", b.Unpin(0), api.ErrGone)
	b.does("Evict", b.Evict(0))
	b.frames(3)
	b.reads(0, x)
	// A page that was dropped isn't pinned when it comes again.
	answers(t, "Unpin", b.Unpin(0), api.ErrGone)
}

func TestPinsOfManyPages(t *testing.T) {
	b := made(t, 70, 64)
	for number := range 64 {
		for range number%3 + 1 {
			b.does("Pin", b.Pin(number))
		}
	}
	b.refuses(64, api.ErrPool)
	b.refuses(69, api.ErrPool)
	for number := range 64 {
		for range number % 3 {
			b.does("Unpin", b.Unpin(number))
			b.refuses(65, api.ErrPool)
		}
	}
	b.does("Unpin", b.Unpin(40))
	b.reads(65, api.Page{})
	if got := b.Frames(); len(got) != 64 || slices.Contains(got, 40) || !slices.Contains(got, 65) {
		t.Error(got)
	}
}

// P14.1: Evict, Clean and Sync

func TestEvicts(t *testing.T) {
	b := made(t, 3, 3)
	answers(t, "Evict", b.Evict(0), api.ErrGone)
	b.reads(0, api.Page{})
	steps := b.d.Steps()
	b.does("Evict", b.Evict(0))
	if b.d.Steps() != steps {
		t.Error("a clean page is written out")
	}
	b.frames()
	answers(t, "Evict", b.Evict(0), api.ErrGone)
	x := b.changed(0, 4)
	b.reads(1, api.Page{})
	b.does("Evict", b.Evict(0))
	b.frames(1)
	b.device(0, x)
	b.dirty(0, 1)
	b.reads(0, x)
	steps = b.d.Steps()
	b.does("Evict", b.Evict(0))
	if b.d.Steps() != steps {
		t.Error("a clean page is written out")
	}
	b.dirty(0, 1)
}

func TestCleans(t *testing.T) {
	b := made(t, 4, 4)
	x, y := b.changed(3, 4), b.changed(1, 5)
	b.reads(2, api.Page{})
	b.does("Pin", b.Pin(3))
	b.does("Clean", b.Clean())
	b.frames(1, 2, 3)
	b.dirty()
	if b.d.Unsynced() != nil || b.j.Flushed() != 3 {
		t.Error(b.d.Unsynced(), b.j.Flushed())
	}
	b.device(1, y)
	b.device(2, api.Page{})
	b.device(3, x)
	answers(t, "Evict", b.Evict(3), api.ErrPool)
	// Without a dirty page it is a Sync.
	b.lay(base-1, junk())
	steps, syncs := b.d.Steps(), b.d.Syncs()
	b.does("Clean", b.Clean())
	if b.d.Steps() != steps+1 || b.d.Syncs() != syncs+1 || b.d.Unsynced() != nil {
		t.Error(b.d.Steps()-steps, b.d.Syncs()-syncs, b.d.Unsynced())
	}
}

func TestSyncs(t *testing.T) {
	b := made(t, 3, 2)
	b.changed(0, 4)
	b.lay(base-1, junk())
	steps, syncs := b.d.Steps(), b.d.Syncs()
	b.does("Sync", b.Sync())
	if b.d.Steps() != steps+1 || b.d.Syncs() != syncs+1 || b.d.Unsynced() != nil {
		t.Error(b.d.Steps()-steps, b.d.Syncs()-syncs, b.d.Unsynced())
	}
	// A Sync writes no page out.
	b.device(0, api.Page{})
	b.dirty(0, 1)
	b.powerless()
	answers(t, "Sync", b.Sync(), api.ErrDown)
	b.d.Crash()
	b.does("Sync", b.Sync())
}

// P14.1: a nil Pool
func TestNilPool(t *testing.T) {
	var p *pool.Pool
	for _, number := range []int{-1, 0, 1, 1023, least, greatest} {
		x, err := p.Read(number)
		answers(t, "Read", err, api.ErrRange)
		if x != (api.Page{}) {
			t.Error(x)
		}
		answers(t, "Write", p.Write(number, sheet(1, 1)), api.ErrRange)
		answers(t, "Pin", p.Pin(number), api.ErrRange)
		answers(t, "Unpin", p.Unpin(number), api.ErrRange)
		answers(t, "Evict", p.Evict(number), api.ErrRange)
	}
	answers(t, "Clean", p.Clean(), api.ErrRange)
	answers(t, "Sync", p.Sync(), api.ErrRange)
	if p.Dirty() != nil || p.Frames() != nil || p.Len() != 0 {
		t.Error(p.Dirty(), p.Frames(), p.Len())
	}
}

// P14.1: a nil journal has flushed nothing, and flushes nothing: no page with a record goes to the device
func TestPoolsWithoutALog(t *testing.T) {
	d := device(t, base+2)
	b := &bench{opened(t, d, nil, base, 2, 1), t, d, nil, 2}
	b.does("Write", b.Write(0, sheet(0, 3)))
	for range 2 {
		b.refuses(1, api.ErrDown)
		answers(t, "Evict", b.Evict(0), api.ErrDown)
		answers(t, "Clean", b.Clean(), api.ErrDown)
		b.frames(0)
		b.dirty(0, 0)
	}
	b.reads(0, sheet(0, 3))
	b.does("Write", b.Write(0, sheet(-1, 3)))
	b.does("Evict", b.Evict(0))
	b.device(0, sheet(-1, 3))
}
