package slot_test

import (
	"strconv"
	"testing"

	"palimpsest/api"
	"palimpsest/disk"
	"palimpsest/slot"
)

// keeps is what a crash may keep of the two sectors at a place, none, one or both.
func keeps(at int) [][]int {
	return [][]int{nil, {at}, {at + 1}, {at, at + 1}}
}

// keeping tells whether a sector is among those that are kept.
func keeping(keep []int, at int) bool {
	for _, k := range keep {
		if k == at {
			return true
		}
	}
	return false
}

// grown is slots at a place whose row is "r" with their number, on a new device.
func grown(t *testing.T, at, number int) (*disk.Device, *slot.Slots) {
	t.Helper()
	d := device(t, at+3)
	s := formatted(t, d, at, "r1")
	for n := 2; n <= number; n++ {
		saved(t, s, "r"+strconv.Itoa(n))
	}
	return d, s
}

// dead tells of slots that make a step or answer anything else than ErrDown to a Save, or have another row by it.
func dead(t *testing.T, d *disk.Device, s *slot.Slots, n int, row string) {
	t.Helper()
	steps, unsynced := d.Steps(), len(d.Unsynced())
	for _, next := range []string{"", "next", long(480)} {
		answers(t, "Save behind one that was cut", s.Save([]byte(next)), api.ErrDown)
	}
	has(t, s, n, row)
	if d.Steps() != steps || len(d.Unsynced()) != unsynced {
		t.Error("a Save behind one that was cut makes steps")
	}
}

// P3.2: a Save that is cut

func TestSaveIsCutAtEachStep(t *testing.T) {
	for _, at := range []int{0, 1, 4} {
		for number := 1; number < 6; number++ {
			for armed := range 2 {
				for _, keep := range keeps(at) {
					cutSave(t, at, number, armed, keep)
				}
			}
		}
	}
}

// cutSave cuts a Save behind so many steps, and holds what an Open behind the crash answers against what must be there.
func cutSave(t *testing.T, at, number, armed int, keep []int) {
	t.Helper()
	d, s := grown(t, at, number)
	old := "r" + strconv.Itoa(number)
	arm(t, d, armed)
	answers(t, "Save", s.Save([]byte("new")), api.ErrDown)
	dead(t, d, s, number, old)
	o, err := slot.Open(d, at)
	refuses(t, "Open without power", o, err, api.ErrDown)
	d.Crash(keep...)
	dead(t, d, s, number, old)
	n, row := number, old
	if armed == 1 && keeping(keep, at+(number+1)%2) {
		n, row = number+1, "new"
	}
	o = opens(t, d, at, n, row)
	dead(t, d, s, number, old)
	saved(t, o, "more")
	dead(t, d, s, number, old)
	opens(t, d, at, n+1, "more")
}

func TestSaveThatAnsweredIsInForce(t *testing.T) {
	for number := 1; number < 6; number++ {
		for _, keep := range keeps(0) {
			d, s := grown(t, 0, number)
			arm(t, d, 2)
			saved(t, s, "new")
			has(t, s, number+1, "new")
			d.Crash(keep...)
			opens(t, d, 0, number+1, "new")
			saved(t, s, "newer")
			d.Crash(keep...)
			opens(t, d, 0, number+2, "newer")
		}
	}
}

func TestSavesAreCutAgainAndAgain(t *testing.T) {
	state := uint64(3)
	draw := func(n int) int {
		state = state*6364136223846793005 + 1442695040888963407
		return int((state >> 33) % uint64(n))
	}
	d := device(t, 5)
	n, row := 1, "r0"
	s := formatted(t, d, 3, row)
	for i := range 2000 {
		next := long(draw(481)) + strconv.Itoa(i)
		next = next[max(0, len(next)-480):]
		arm(t, d, draw(3))
		err := s.Save([]byte(next))
		d.Crash(keeps(3)[draw(4)]...)
		o, errOpen := slot.Open(d, 3)
		if errOpen != nil {
			t.Fatal(errOpen)
		}
		was := o.Number() == n && string(o.Row()) == row
		is := o.Number() == n+1 && string(o.Row()) == next
		if !is && (err == nil || !was) {
			t.Fatalf("cut %d: number %d behind number %d, %v", i, o.Number(), n, err)
		}
		n, row, s = o.Number(), string(o.Row()), o
	}
}

func TestSaveWithoutPower(t *testing.T) {
	d, s := grown(t, 0, 2)
	powerless(t, d)
	answers(t, "Save", s.Save([]byte("new")), api.ErrDown)
	d.Crash()
	dead(t, d, s, 2, "r2")
	opens(t, d, 0, 2, "r2")
}

func TestPowerThatWentBetweenSaves(t *testing.T) {
	d, s := grown(t, 0, 2)
	powerless(t, d)
	has(t, s, 2, "r2")
	d.Crash()
	saved(t, s, "new")
	has(t, s, 3, "new")
	opens(t, d, 0, 3, "new")
}

func TestRefusedRowsCutNothing(t *testing.T) {
	d, s := grown(t, 0, 2)
	answers(t, "Save", s.Save([]byte(long(481))), api.ErrForm)
	saved(t, s, "new")
	powerless(t, d)
	answers(t, "Save", s.Save([]byte(long(481))), api.ErrForm)
	d.Crash()
	saved(t, s, "newer")
	opens(t, d, 0, 4, "newer")
}

// P3.1: a Format that is cut

func TestFormatIsCutOnABlankDevice(t *testing.T) {
	for _, at := range []int{0, 1, 4} {
		for armed := range 3 {
			for _, keep := range keeps(at) {
				d := device(t, at+2)
				arm(t, d, armed)
				s, err := slot.Format(d, at, []byte("new"))
				refuses(t, "Format", s, err, api.ErrDown)
				d.Crash(keep...)
				if armed == 2 && keeping(keep, at+1) {
					saved(t, opens(t, d, at, 1, "new"), "more")
					continue
				}
				blank(t, d, at)
				saved(t, formatted(t, d, at, "again"), "more")
				opens(t, d, at, 2, "more")
			}
		}
	}
}

func TestFormatIsCutOverEarlierSlots(t *testing.T) {
	for number := 1; number < 6; number++ {
		for armed := range 3 {
			for _, keep := range keeps(1) {
				cutFormat(t, 1, number, armed, keep)
			}
		}
	}
}

// cutFormat cuts a Format over slots of a number, and holds what is there behind the crash against each sector's own fate:
// the first one is zeros if its write was made and kept, the second one has number 1 likewise.
func cutFormat(t *testing.T, at, number, armed int, keep []int) {
	t.Helper()
	d, _ := grown(t, at, number)
	arm(t, d, armed)
	s, err := slot.Format(d, at, []byte("new"))
	refuses(t, "Format", s, err, api.ErrDown)
	d.Crash(keep...)
	even, odd := number-number%2, number-1+number%2
	n, row := max(even, odd), "r"+strconv.Itoa(max(even, odd))
	if armed > 0 && keeping(keep, at) {
		even = 0
		n, row = odd, "r"+strconv.Itoa(odd)
	}
	if armed > 1 && keeping(keep, at+1) {
		n, row = 1, "new"
		if even > 0 {
			n, row = even, "r"+strconv.Itoa(even)
		}
	}
	saved(t, opens(t, d, at, n, row), "more")
	opens(t, d, at, n+1, "more")
}

func TestFormatThatAnsweredIsInForce(t *testing.T) {
	for number := 1; number < 6; number++ {
		for _, keep := range keeps(1) {
			d, _ := grown(t, 1, number)
			arm(t, d, 3)
			s, err := slot.Format(d, 1, []byte("new"))
			answers(t, "Format", err, nil)
			has(t, s, 1, "new")
			d.Crash(keep...)
			opens(t, d, 1, 1, "new")
			saved(t, s, "more")
			opens(t, d, 1, 2, "more")
		}
	}
}

func TestFormatWritesItsSectorsInOrder(t *testing.T) {
	d, _ := grown(t, 0, 4)
	for armed, want := range [][]int{nil, {0}, {0, 1}} {
		arm(t, d, armed)
		_, err := slot.Format(d, 0, []byte("new"))
		answers(t, "Format", err, api.ErrDown)
		got := d.Unsynced()
		if len(got) != len(want) || len(got) > 0 && got[len(got)-1] != want[len(want)-1] {
			t.Errorf("armed with %d: %v, want %v", armed, got, want)
		}
		d.Crash()
	}
	opens(t, d, 0, 4, "r4")
}
