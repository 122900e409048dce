package pool_test

import (
	"slices"
	"testing"

	"palimpsest/api"
)

// What is handed in is neither changed nor kept, and answers are new memory.

func TestAnswersAreNewMemory(t *testing.T) {
	b := made(t, 8, 4)
	for number := range 8 {
		b.changed(number, number)
	}
	frames, dirty := b.Frames(), b.Dirty()
	for range 3 {
		again, list := b.Frames(), b.Dirty()
		// Spare room of an answer, too, is nobody else's.
		clear(again[:cap(again)])
		clear(list[:cap(list)])
		if got := b.Frames(); !slices.Equal(got, frames) {
			t.Error(got, frames)
		}
		if got := b.Dirty(); !slices.Equal(got, dirty) {
			t.Error(got, dirty)
		}
	}
	// Earlier answers stay as they were.
	b.does("Clean", b.Clean())
	b.does("Evict", b.Evict(frames[0]))
	if b.Dirty() != nil || len(frames) != 4 || len(dirty) != 8 || dirty[7] != (api.Dirty{Page: 7, Lsn: 8}) || len(b.Frames()) != 3 {
		t.Error(frames, dirty)
	}
}

func TestPagesAreNotKept(t *testing.T) {
	b := made(t, 3, 1)
	x := sheet(0, 4)
	b.does("Write", b.Write(0, x))
	if x != sheet(0, 4) {
		t.Error("what is handed in is changed")
	}
	x.Lsn, x.Cells[3] = 9, 9
	b.reads(0, sheet(0, 4))
	y, err := b.Read(0)
	if err != nil {
		t.Fatal(err)
	}
	y.Lsn, y.Cells[5] = 8, 8
	b.reads(0, sheet(0, 4))
	b.reads(1, api.Page{})
	b.device(0, sheet(0, 4))
	b.reads(0, sheet(0, 4))
}

// Two pools are two.
func TestPoolsShareNothing(t *testing.T) {
	a, b := made(t, 3, 2), made(t, 3, 2)
	x := a.changed(0, 1)
	b.reads(0, api.Page{})
	b.dirty()
	y := b.changed(1, 2)
	a.reads(0, x)
	a.reads(1, api.Page{})
	a.dirty(0, 1)
	a.does("Clean", a.Clean())
	b.dirty(1, 1)
	b.reads(1, y)
	a.device(1, api.Page{})
}
