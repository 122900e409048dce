package pool_test

import (
	"slices"
	"testing"

	"palimpsest/api"
)

// P14.1: how many frames there are matters for no Read

func TestFramesMatterForNoRead(t *testing.T) {
	for seed := range 60 {
		draws := draw(500 + seed)
		n := 1 + draws.next(10)
		last := make([]api.Page, n)
		var pools []*bench
		for frames := 1; frames <= n+1; frames++ {
			pools = append(pools, made(t, n, frames))
		}
		pools = append(pools, made(t, n, 64))
		for call := range 200 {
			number, kind := draws.next(n), draws.next(10)
			for i, b := range pools {
				switch kind {
				case 0:
					b.does("Clean", b.Clean())
				case 1, 2, 3:
					last[number] = b.changed(number, call)
				default:
					b.reads(number, last[number])
				}
				// What each pool does by itself is its own.
				b.stray(seed + 3*i + call)
				if b.j.Free() < 100 {
					b.does("Trim", b.j.Trim(b.j.Next(), nil))
				}
			}
			if t.Failed() {
				t.Fatal(seed, call)
			}
		}
		for _, b := range pools {
			b.does("Clean", b.Clean())
			for number := range n {
				b.device(number, last[number])
			}
		}
	}
}

// stray drops a page now and then, or syncs the device.
func (b *bench) stray(by int) {
	b.t.Helper()
	switch frames := b.Frames(); {
	case by%7 == 0 && len(frames) > 0:
		b.does("Evict", b.Evict(frames[by%len(frames)]))
	case by%11 == 0:
		b.does("Sync", b.Sync())
	case by%13 == 0:
		b.does("Flush", b.j.Flush())
	}
}

// P14.4: no more pages are in memory than there are frames, and pinned ones stay
func TestFramesAreNeverMore(t *testing.T) {
	full := 0
	for seed := range 60 {
		draws := draw(900 + seed)
		n := 2 + draws.next(12)
		frames := 1 + draws.next(n)
		b := made(t, n, frames)
		pins := map[int]int{}
		for call := range 300 {
			number, was := draws.next(n), b.Frames()
			there := slices.Contains(was, number)
			want := error(nil)
			if !there && len(pins) == frames {
				want = api.ErrPool
				full++
			}
			switch kind := draws.next(6); {
			case kind == 0:
				err := b.Pin(number)
				answers(t, "Pin", err, want)
				if err == nil {
					pins[number]++
				}
			case kind == 1 && pins[number] > 0:
				b.does("Unpin", b.Unpin(number))
				if pins[number]--; pins[number] == 0 {
					delete(pins, number)
				}
			case kind < 4:
				answers(t, "Write", b.Write(number, sheet(0, call)), want)
			default:
				_, err := b.Read(number)
				answers(t, "Read", err, want)
			}
			now := b.Frames()
			if len(now) > frames || !slices.IsSorted(now) {
				t.Fatal(now, frames)
			}
			gone := slices.DeleteFunc(was, func(old int) bool { return slices.Contains(now, old) })
			if len(gone) > 1 || len(gone) == 1 && (there || len(now) < frames || want != nil) {
				t.Fatal("dropped although there is room", gone)
			}
			for pinned := range pins {
				if !slices.Contains(now, pinned) {
					t.Fatal("a pinned page is dropped")
				}
			}
		}
	}
	if full < 1000 {
		t.Error(full)
	}
}

// P14.4: room is made only where there is none
func TestFreeFramesAreTaken(t *testing.T) {
	for _, frames := range []int{1, 2, 3, 63, 64} {
		b := made(t, 70, frames)
		var want []int
		for number := range frames {
			b.does("Pin", b.Pin(69-number))
			b.does("Unpin", b.Unpin(69-number))
			want = slices.Insert(want, 0, 69-number)
			b.frames(want...)
		}
		// Just one is dropped for another one.
		b.reads(0, api.Page{})
		now := b.Frames()
		if len(now) != frames || now[0] != 0 {
			t.Error(now)
		}
		// A frame that was dropped is free.
		b.does("Evict", b.Evict(0))
		b.reads(1, api.Page{})
		if got := b.Frames(); len(got) != frames || !slices.Equal(got[1:], now[1:]) {
			t.Error(got, now)
		}
	}
}
