package pool_test

import (
	"bytes"
	"testing"

	"palimpsest/api"
)

// P14.1: which error comes first, and that a refused call changes nothing

// state is what can be told of a pool and its device without a step.
type state struct {
	dirty    []api.Dirty
	frames   []int
	unsynced []int
	steps    int
	flushed  int
}

func (b *bench) state() state {
	return state{b.Dirty(), b.Frames(), b.d.Unsynced(), b.d.Steps(), b.j.Flushed()}
}

// unchanged tells of calls that changed something.
func (b *bench) unchanged(was state) {
	b.t.Helper()
	b.frames(was.frames...)
	var pairs []int
	for _, x := range was.dirty {
		pairs = append(pairs, x.Page, x.Lsn)
	}
	b.dirty(pairs...)
	if is := b.state(); is.steps != was.steps || is.flushed != was.flushed || len(is.unsynced) != len(was.unsynced) {
		b.t.Errorf("%v, was %v", is, was)
	}
}

// pinned is a pool of one frame, whose page 0 is dirty and pinned, and whose page 1 has a sector of no page.
func pinned(t *testing.T) (*bench, api.Page) {
	b := made(t, 3, 1)
	b.lay(base+1, junk())
	x := b.changed(0, 3)
	b.does("Pin", b.Pin(0))
	return b, x
}

func TestRangeComesFirst(t *testing.T) {
	b, x := pinned(t)
	b.powerless()
	was := b.state()
	for _, number := range []int{-1, 3, 4, least, greatest} {
		b.refuses(number, api.ErrRange)
		answers(t, "Unpin", b.Unpin(number), api.ErrRange)
		answers(t, "Evict", b.Evict(number), api.ErrRange)
	}
	b.unchanged(was)
	b.reads(0, x)
}

func TestPinnedFramesComeAheadOfSectors(t *testing.T) {
	b, x := pinned(t)
	was := b.state()
	b.refuses(1, api.ErrPool)
	b.refuses(2, api.ErrPool)
	b.unchanged(was)
	b.powerless()
	was = b.state()
	b.refuses(1, api.ErrPool)
	b.refuses(2, api.ErrPool)
	answers(t, "Evict", b.Evict(0), api.ErrPool)
	answers(t, "Evict", b.Evict(1), api.ErrGone)
	answers(t, "Unpin", b.Unpin(1), api.ErrGone)
	b.unchanged(was)
	b.reads(0, x)
	b.does("Unpin", b.Unpin(0))
	answers(t, "Evict", b.Evict(0), api.ErrDown)
	b.frames(0)
	b.reads(0, x)
}

// What room needs of the device comes ahead of what the sector has.
func TestRoomComesAheadOfSectors(t *testing.T) {
	b, x := pinned(t)
	b.does("Unpin", b.Unpin(0))
	b.arm(0)
	was := b.state()
	b.refuses(1, api.ErrDown)
	if !b.d.Down() {
		t.Error("no page was written out for it")
	}
	b.unchanged(was)
	b.reads(0, x)
	b.d.Crash()
	b.frames(0)
}

// A frame that is free, or whose page is clean, needs nothing of the device.
func TestRoomThatNeedsNoStep(t *testing.T) {
	for _, frames := range []int{1, 2} {
		b := made(t, 3, frames)
		b.lay(base+1, junk())
		b.lay(base+2, junk())
		b.reads(0, api.Page{})
		b.arm(0)
		was := b.state()
		b.refuses(1, api.ErrBox)
		b.unchanged(was)
		if b.d.Down() {
			t.Error("a Read made a step")
		}
		b.powerless()
		was = b.state()
		b.refuses(1, api.ErrDown)
		b.refuses(2, api.ErrDown)
		b.unchanged(was)
		b.reads(0, api.Page{})
	}
}

// What is in memory needs no power.
func TestMemoryWithoutPower(t *testing.T) {
	b := made(t, 4, 3)
	x := b.changed(0, 3)
	b.reads(1, api.Page{})
	b.powerless()
	b.reads(0, x)
	b.does("Pin", b.Pin(1))
	b.does("Write", b.Write(1, sheet(7, 7)))
	b.reads(1, sheet(7, 7))
	b.does("Unpin", b.Unpin(1))
	b.dirty(0, 1, 1, 7)
	b.refuses(2, api.ErrDown)
	answers(t, "Evict", b.Evict(0), api.ErrDown)
	answers(t, "Evict", b.Evict(1), api.ErrDown)
	answers(t, "Evict", b.Evict(2), api.ErrGone)
	answers(t, "Clean", b.Clean(), api.ErrDown)
	answers(t, "Sync", b.Sync(), api.ErrDown)
	b.frames(0, 1)
	b.dirty(0, 1, 1, 7)
	b.reads(0, x)
	b.reads(1, sheet(7, 7))
}

// A clean page is dropped without power.
func TestEvictOfACleanPageWithoutPower(t *testing.T) {
	b := made(t, 2, 2)
	b.reads(0, api.Page{})
	b.powerless()
	b.does("Evict", b.Evict(0))
	b.frames()
	b.refuses(0, api.ErrDown)
}

// Without power, but with nothing dirty, a Clean is refused by its Sync.
func TestCleanOfNothingWithoutPower(t *testing.T) {
	b := made(t, 2, 2)
	b.reads(0, api.Page{})
	b.powerless()
	answers(t, "Clean", b.Clean(), api.ErrDown)
	b.frames(0)
}

// A dead log refuses what must be flushed, and nothing else.
func TestPoolsOverADeadLog(t *testing.T) {
	b := made(t, 4, 2)
	low := b.changed(0, 1)
	b.does("Flush", b.j.Flush())
	high := b.changed(1, 2)
	b.powerless()
	answers(t, "Flush", b.j.Flush(), api.ErrDown)
	b.d.Crash()
	if !b.j.Dead() {
		t.Fatal("the log isn't dead")
	}
	b.does("Pin", b.Pin(0))
	b.refuses(2, api.ErrDown)
	answers(t, "Evict", b.Evict(1), api.ErrDown)
	answers(t, "Clean", b.Clean(), api.ErrDown)
	b.device(1, api.Page{})
	b.frames(0, 1)
	b.reads(1, high)
	// The page that comes first was written out by the Clean.
	b.device(0, low)
	b.dirty(0, 1, 1, 2)
	b.does("Sync", b.Sync())
	b.dirty(1, 2)
}

// A Clean writes out by rising number, whichever page was written first.
func TestCleanGoesByNumber(t *testing.T) {
	numbers := []int{3, 0, 4, 1}
	for armed := range 5 {
		b := made(t, 5, 5)
		pages := map[int]api.Page{2: {}}
		for i, number := range numbers {
			pages[number] = b.changed(number, i+1)
		}
		b.does("Flush", b.j.Flush())
		b.arm(armed)
		answers(t, "Clean", b.Clean(), api.ErrDown)
		var want []int
		for _, number := range []int{0, 1, 3, 4}[:min(armed, 4)] {
			want = append(want, base+number)
		}
		was := b.d.Unsynced()
		if len(was) != len(want) {
			t.Fatal(was, want)
		}
		for i := range want {
			if was[i] != want[i] {
				t.Error(was, want)
			}
		}
		b.dirty(0, 2, 1, 4, 3, 1, 4, 3)
		b.frames(0, 1, 3, 4)
		b.d.Crash(was...)
		for number, x := range pages {
			if bytes.Equal(b.sector(base+number), make([]byte, 512)) {
				x = api.Page{}
			}
			b.device(number, x)
		}
		for number, x := range pages {
			if number != 2 {
				b.reads(number, x)
			}
		}
		b.does("Clean", b.Clean())
		b.dirty()
		for number, x := range pages {
			b.device(number, x)
		}
	}
}
