package pool_test

import (
	"testing"

	"palimpsest/api"
)

// P14.3: what Dirty tells

func TestDirtyOfWrites(t *testing.T) {
	b := made(t, 6, 4)
	b.dirty()
	b.reads(0, api.Page{})
	b.does("Pin", b.Pin(1))
	b.dirty()
	b.changed(2, 1)
	b.dirty(2, 1)
	// The first Write counts, as long as the page isn't written out.
	b.changed(1, 2)
	b.changed(2, 3)
	b.dirty(1, 2, 2, 1)
	b.changed(0, 4)
	b.dirty(0, 4, 1, 2, 2, 1)
	b.does("Clean", b.Clean())
	b.dirty()
	b.changed(2, 5)
	b.changed(2, 6)
	b.dirty(2, 5)
	// What is written again as it is, is dirty, too.
	b.does("Clean", b.Clean())
	b.does("Write", b.Write(2, sheet(6, 6)))
	b.dirty(2, 6)
}

func TestDirtyOfRefusedWrites(t *testing.T) {
	b := made(t, 3, 1)
	b.lay(base+1, junk())
	b.does("Pin", b.Pin(0))
	answers(t, "Write", b.Write(1, sheet(4, 4)), api.ErrPool)
	b.does("Unpin", b.Unpin(0))
	answers(t, "Write", b.Write(1, sheet(4, 4)), api.ErrBox)
	answers(t, "Write", b.Write(3, sheet(4, 4)), api.ErrRange)
	b.dirty()
}

// syncs are the ways in which a device may be synced: by the pool, by the log, and by the caller.
func syncs() []way {
	return []way{
		{"Sync", func(b *bench) error { return b.Sync() }},
		{"Clean", func(b *bench) error { return b.Clean() }},
		{"Flush", func(b *bench) error { b.logged(1); return b.j.Flush() }},
		{"Trim", func(b *bench) error { b.logged(1); return b.j.Trim(b.j.Next(), nil) }},
		{"the device's Sync", func(b *bench) error { return b.d.Sync() }},
	}
}

// A page that was written out is Dirty until the device is synced, whoever does it.
func TestDirtyUntilTheDeviceIsSynced(t *testing.T) {
	for _, s := range syncs() {
		b := made(t, 4, 2)
		b.changed(0, 1)
		b.changed(1, 2)
		b.does("Evict", b.Evict(0))
		b.does("Evict", b.Evict(1))
		b.frames()
		for range 2 {
			b.dirty(0, 1, 1, 2)
		}
		b.reads(0, sheet(1, 1))
		b.dirty(0, 1, 1, 2)
		b.does(s.name, s.call(b))
		for range 2 {
			b.dirty()
		}
	}
}

// What is dirty in memory isn't less so for a sync.
func TestDirtyBehindASync(t *testing.T) {
	for _, s := range syncs() {
		if s.name == "Clean" {
			continue
		}
		b := made(t, 4, 3)
		b.changed(0, 1)
		b.changed(1, 2)
		b.does(s.name, s.call(b))
		b.dirty(0, 1, 1, 2)
		// The sync that follows the Write isn't one that follows the page's way to the device.
		b.does("Evict", b.Evict(0))
		b.dirty(0, 1, 1, 2)
		b.does(s.name, s.call(b))
		b.dirty(1, 2)
	}
}

// A page that was written out and then written again has the less of its Lsns, up to the sync; then that of the Write behind.
func TestDirtyOfWritesBehindTheDevice(t *testing.T) {
	for _, s := range syncs() {
		b := made(t, 4, 3)
		b.changed(0, 1)
		b.changed(0, 2)
		b.does("Evict", b.Evict(0))
		b.dirty(0, 1)
		b.logged(4)
		b.does("Flush", b.j.Flush())
		b.dirty()
		x := b.changed(0, 3)
		b.does("Flush", b.j.Flush())
		b.does("Evict", b.Evict(0))
		b.device(0, x)
		b.dirty(0, 7)
		b.logged(1)
		y := b.changed(0, 4)
		b.changed(0, 5)
		b.dirty(0, 7)
		b.device(0, x)
		b.does(s.name, s.call(b))
		if s.name == "Clean" {
			b.dirty()
			continue
		}
		b.dirty(0, y.Lsn)
		b.does("Flush", b.j.Flush())
		b.does("Evict", b.Evict(0))
		b.dirty(0, y.Lsn)
		b.does("Sync", b.Sync())
		b.dirty()
	}
}

// Written out twice without a sync between: what the first one brought isn't there for sure either.
func TestDirtyOfPagesWrittenOutAgain(t *testing.T) {
	b := made(t, 4, 2)
	b.logged(5)
	b.does("Flush", b.j.Flush())
	for lsn := 2; lsn <= 5; lsn++ {
		b.does("Write", b.Write(3, sheet(lsn, lsn)))
		b.dirty(3, 2)
		b.does("Evict", b.Evict(3))
		b.dirty(3, 2)
		b.reads(3, sheet(lsn, lsn))
	}
	b.does("Sync", b.Sync())
	b.dirty()
	b.does("Write", b.Write(3, sheet(5, 8)))
	b.does("Evict", b.Evict(3))
	b.dirty(3, 5)
}

// The log that is flushed ahead of a page syncs what was written out earlier, the same page among it.
func TestDirtyBehindTheLogAheadOfAPage(t *testing.T) {
	b := made(t, 4, 2)
	b.changed(0, 1)
	b.changed(1, 2)
	b.does("Evict", b.Evict(0))
	b.dirty(0, 1, 1, 2)
	b.changed(0, 3)
	b.dirty(0, 1, 1, 2)
	b.does("Evict", b.Evict(0))
	b.dirty(0, 3, 1, 2)
	// The log is flushed, so page 1 goes without one, and page 0 isn't synced.
	b.does("Evict", b.Evict(1))
	b.dirty(0, 3, 1, 2)
	b.changed(2, 4)
	b.does("Evict", b.Evict(2))
	b.dirty(2, 4)
}

// Where Lsns fall: dirty by the first Write's, unsynced by the least one's.
func TestDirtyWhereLsnsFall(t *testing.T) {
	b := made(t, 3, 3)
	b.logged(20)
	b.does("Flush", b.j.Flush())
	for _, lsn := range []int{9, 6, 8} {
		b.does("Write", b.Write(0, sheet(lsn, lsn)))
	}
	b.dirty(0, 9)
	b.does("Evict", b.Evict(0))
	b.dirty(0, 6)
	b.does("Write", b.Write(0, sheet(7, 7)))
	b.dirty(0, 6)
	b.does("Write", b.Write(0, sheet(-5, 5)))
	b.dirty(0, -5)
	b.does("Sync", b.Sync())
	b.dirty(0, 7)
	b.does("Evict", b.Evict(0))
	b.dirty(0, -5)
	b.does("Write", b.Write(0, sheet(20, 1)))
	b.dirty(0, -5)
	b.does("Sync", b.Sync())
	b.dirty(0, 20)
}

// Every number of 64 bits is a page's Lsn.
func TestDirtyOfLsnsAtTheEdges(t *testing.T) {
	for _, lsn := range []int{least, -1, 0, 1, greatest} {
		b := made(t, 2, 1)
		b.does("Write", b.Write(1, sheet(lsn, 2)))
		b.dirty(1, lsn)
		b.does("Evict", b.Evict(1))
		b.dirty(1, lsn)
		b.reads(1, sheet(lsn, 2))
		b.does("Clean", b.Clean())
		b.dirty()
	}
}

// Other sectors that are unsynced are no pages.
func TestDirtyOfOtherSectors(t *testing.T) {
	b := made(t, 2, 1)
	b.lay(base-1, junk())
	b.lay(base+2, junk())
	b.lay(base+1, make([]byte, 512))
	b.dirty()
	b.changed(0, 1)
	b.does("Evict", b.Evict(0))
	b.dirty(0, 1)
}

// A new pool knows of none of another one's pages.
func TestDirtyOfANewPool(t *testing.T) {
	b := made(t, 3, 2)
	x := b.changed(0, 1)
	y := b.changed(1, 2)
	b.does("Evict", b.Evict(0))
	p := &bench{opened(t, b.d, b.j, base, 3, 2), t, b.d, b.j, 3}
	p.dirty()
	p.frames()
	p.reads(0, x)
	p.reads(1, api.Page{})
	p.changed(0, 3)
	p.dirty(0, 3)
	b.dirty(0, 1, 1, 2)
	b.reads(1, y)
}
