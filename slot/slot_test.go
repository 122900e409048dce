package slot_test

import (
	"bytes"
	"encoding/binary"
	"hash/crc32"
	"math"
	"testing"

	"palimpsest/api"
	"palimpsest/disk"
	"palimpsest/slot"
)

// The calls must have just these signatures: the layers above are built on them.
var (
	_ func(d *disk.Device, at int, row []byte) (*slot.Slots, error) = slot.Format
	_ func(d *disk.Device, at int) (*slot.Slots, error)             = slot.Open
	_ func(*slot.Slots) []byte                                      = (*slot.Slots).Row
	_ func(*slot.Slots) int                                         = (*slot.Slots).Number
	_ func(s *slot.Slots, row []byte) error                         = (*slot.Slots).Save
)

// greatest is the greatest number that a row may have.
const greatest = 1 << 62

// device is a device of so many sectors.
func device(t *testing.T, size int) *disk.Device {
	t.Helper()
	d, err := disk.New(size)
	if err != nil {
		t.Fatal(err)
	}
	return d
}

// formatted is slots that must be made.
func formatted(t *testing.T, d *disk.Device, at int, row string) *slot.Slots {
	t.Helper()
	s, err := slot.Format(d, at, []byte(row))
	if err != nil || s == nil {
		t.Fatalf("Format at %d: %v, %v", at, s, err)
	}
	return s
}

// saved saves rows that must be taken.
func saved(t *testing.T, s *slot.Slots, rows ...string) {
	t.Helper()
	for _, row := range rows {
		if err := s.Save([]byte(row)); err != nil {
			t.Fatalf("Save behind number %d: %v", s.Number(), err)
		}
	}
}

// answers holds an error against the one that is wanted.
func answers(t *testing.T, what string, got, want error) {
	t.Helper()
	if got != want {
		t.Errorf("%s: %v, want %v", what, got, want)
	}
}

// refuses holds slots that Format or Open answered against an error with nothing beside it.
func refuses(t *testing.T, what string, s *slot.Slots, err, want error) {
	t.Helper()
	if s != nil || err != want {
		t.Errorf("%s: %v, %v, want none, %v", what, s, err, want)
	}
}

// has holds slots against the row and the number that they should have.
func has(t *testing.T, s *slot.Slots, n int, row string) {
	t.Helper()
	if s.Number() != n || string(s.Row()) != row {
		t.Errorf("number %d, row %.20q, want %d, %.20q", s.Number(), s.Row(), n, row)
	}
}

// opens opens slots and holds them against a row and its number.
func opens(t *testing.T, d *disk.Device, at, n int, row string) *slot.Slots {
	t.Helper()
	s, err := slot.Open(d, at)
	if err != nil || s == nil {
		t.Fatalf("Open at %d: %v, %v", at, s, err)
	}
	has(t, s, n, row)
	return s
}

// blank tells of slots that are opened where there should be none.
func blank(t *testing.T, d *disk.Device, at int) {
	t.Helper()
	s, err := slot.Open(d, at)
	refuses(t, "Open", s, err, api.ErrBlank)
}

// boxed is a sector that boxes these bytes, laid by the standard library.
func boxed(in []byte) []byte {
	behind := binary.BigEndian.AppendUint16(nil, uint16(len(in)))
	behind = append(append(behind, in...), make([]byte, 506-len(in))...)
	return append(binary.BigEndian.AppendUint32(nil, crc32.ChecksumIEEE(behind)), behind...)
}

// inside is what is boxed of a number and a row: the standard library's signed numbers have the same form.
func inside(n int, row string) []byte {
	b := binary.AppendVarint(nil, int64(n))
	b = binary.AppendVarint(b, int64(len(row)))
	return append(b, row...)
}

// of is a row's sector.
func of(n int, row string) []byte { return boxed(inside(n, row)) }

// lay writes a sector past the slots, and syncs it.
func lay(t *testing.T, d *disk.Device, at int, b []byte) {
	t.Helper()
	if err := d.Write(at, b); err != nil {
		t.Fatal(err)
	}
	if err := d.Sync(); err != nil {
		t.Fatal(err)
	}
}

// holds tells of a sector that hasn't just these bytes.
func holds(t *testing.T, d *disk.Device, at int, want []byte) {
	t.Helper()
	if got, err := d.Read(at); err != nil || !bytes.Equal(got, want) {
		t.Errorf("sector %d: %v, begins with %x, want %x", at, err, got[:min(12, len(got))], want[:12])
	}
}

// made holds a device's counts against those that are wanted, and asks that all is synced.
func made(t *testing.T, d *disk.Device, steps, syncs int) {
	t.Helper()
	if d.Steps() != steps || d.Syncs() != syncs || len(d.Unsynced()) != 0 {
		t.Errorf("steps %d, syncs %d, unsynced %v, want %d, %d, none", d.Steps(), d.Syncs(), d.Unsynced(), steps, syncs)
	}
}

// arm arms a device.
func arm(t *testing.T, d *disk.Device, n int) {
	t.Helper()
	if err := d.Arm(n); err != nil {
		t.Fatal(err)
	}
}

// powerless lets a device's power go.
func powerless(t *testing.T, d *disk.Device) {
	t.Helper()
	arm(t, d, 0)
	answers(t, "Sync", d.Sync(), api.ErrDown)
}

func zeros() []byte { return make([]byte, 512) }

func long(n int) string { return string(bytes.Repeat([]byte{'r'}, n)) }

// P3.1: the example, and where rows stand

func TestExample(t *testing.T) {
	d := device(t, 2)
	s := formatted(t, d, 0, "a")
	has(t, s, 1, "a")
	holds(t, d, 0, zeros())
	holds(t, d, 1, of(1, "a"))
	made(t, d, 3, 1)
	saved(t, s, "b")
	has(t, s, 2, "b")
	holds(t, d, 0, of(2, "b"))
	holds(t, d, 1, of(1, "a"))
	made(t, d, 5, 2)
	saved(t, s, "c")
	has(t, s, 3, "c")
	holds(t, d, 0, of(2, "b"))
	holds(t, d, 1, of(3, "c"))
	made(t, d, 7, 3)
	opens(t, d, 0, 3, "c")
	made(t, d, 7, 3)
}

func TestSlotsStandWhereTheyAreTold(t *testing.T) {
	const size = 7
	for at := range size - 1 {
		d := device(t, size)
		for i := range size {
			lay(t, d, i, bytes.Repeat([]byte{7}, 512))
		}
		s := formatted(t, d, at, "a")
		saved(t, s, "b", "c", "d")
		opens(t, d, at, 4, "d")
		for i := range size {
			want := bytes.Repeat([]byte{7}, 512)
			switch i {
			case at:
				want = of(4, "d")
			case at + 1:
				want = of(3, "c")
			}
			holds(t, d, i, want)
		}
	}
}

func TestSlotsOfOneDeviceAreApart(t *testing.T) {
	d, other := device(t, 6), device(t, 6)
	a, b, c := formatted(t, d, 1, "a"), formatted(t, d, 3, "b"), formatted(t, other, 1, "c")
	saved(t, b, "b2", "b3")
	saved(t, a, "a2")
	for range 2 {
		has(t, a, 2, "a2")
		has(t, b, 3, "b3")
		has(t, c, 1, "c")
		a, b, c = opens(t, d, 1, 2, "a2"), opens(t, d, 3, 3, "b3"), opens(t, other, 1, 1, "c")
	}
}

func TestRowsOfAllLengths(t *testing.T) {
	for n := range 481 {
		d := device(t, 2)
		s := formatted(t, d, 0, long(n))
		has(t, s, 1, long(n))
		holds(t, d, 1, of(1, long(n)))
		opens(t, d, 0, 1, long(n))
		saved(t, s, long(480-n))
		has(t, s, 2, long(480-n))
		holds(t, d, 0, of(2, long(480-n)))
		opens(t, d, 0, 2, long(480-n))
	}
}

func TestRowsOfAllBytes(t *testing.T) {
	var row []byte
	for i := range 256 {
		row = append(row, byte(i))
	}
	d := device(t, 2)
	s := formatted(t, d, 0, string(row))
	opens(t, d, 0, 1, string(row))
	saved(t, s, string(make([]byte, 480)))
	opens(t, d, 0, 2, string(make([]byte, 480)))
}

func TestTheSameRowAgainHasTheNextNumber(t *testing.T) {
	d := device(t, 2)
	s := formatted(t, d, 0, "a")
	for n := range 40 {
		saved(t, s, "a")
		has(t, s, n+2, "a")
		s = opens(t, d, 0, n+2, "a")
	}
}

func TestNoRowIsARow(t *testing.T) {
	d := device(t, 2)
	s, err := slot.Format(d, 0, nil)
	answers(t, "Format", err, nil)
	has(t, s, 1, "")
	opens(t, d, 0, 1, "")
	saved(t, s, "x")
	answers(t, "Save", s.Save(nil), nil)
	has(t, s, 3, "")
	opens(t, d, 0, 3, "")
	answers(t, "Save", s.Save([]byte{}), nil)
	opens(t, d, 0, 4, "")
}

// P3.1: Format

func TestFormatRefusesPlaces(t *testing.T) {
	for _, size := range []int{1, 2, 5, 4096} {
		d := device(t, size)
		for _, at := range []int{math.MinInt, -2, -1, size - 1, size, size + 1, math.MaxInt - 1, math.MaxInt} {
			for _, n := range []int{0, 480, 481} {
				s, err := slot.Format(d, at, []byte(long(n)))
				refuses(t, "Format", s, err, api.ErrRange)
			}
		}
		made(t, d, 0, 0)
	}
	s, err := slot.Format(nil, 0, nil)
	refuses(t, "Format of no device", s, err, api.ErrRange)
}

func TestFormatRefusesRows(t *testing.T) {
	for _, n := range []int{481, 506, 512, 1 << 20} {
		d := device(t, 2)
		s := formatted(t, d, 0, "a")
		saved(t, s, "b")
		again, err := slot.Format(d, 0, []byte(long(n)))
		refuses(t, "Format", again, err, api.ErrForm)
		made(t, d, 5, 2)
		opens(t, d, 0, 2, "b")
	}
}

func TestFormatErrorsInOrder(t *testing.T) {
	d := device(t, 2)
	powerless(t, d)
	s, err := slot.Format(d, 1, []byte(long(481)))
	refuses(t, "range ahead of form and down", s, err, api.ErrRange)
	s, err = slot.Format(d, 0, []byte(long(481)))
	refuses(t, "form ahead of down", s, err, api.ErrForm)
	s, err = slot.Format(d, 0, []byte(long(480)))
	refuses(t, "down", s, err, api.ErrDown)
	made(t, d, 0, 0)
}

func TestFormatReplacesEarlierSlots(t *testing.T) {
	for saves := range 5 {
		d := device(t, 2)
		s := formatted(t, d, 0, "old")
		for range saves {
			saved(t, s, "older")
		}
		again := formatted(t, d, 0, "new")
		has(t, again, 1, "new")
		holds(t, d, 0, zeros())
		holds(t, d, 1, of(1, "new"))
		opens(t, d, 0, 1, "new")
		saved(t, again, "newer")
		opens(t, d, 0, 2, "newer")
	}
}

// P3.1: Open

func TestOpenRefusesPlaces(t *testing.T) {
	for _, size := range []int{1, 2, 5, 4096} {
		d := device(t, size)
		powerless(t, d)
		for _, at := range []int{math.MinInt, -2, -1, size - 1, size, size + 1, math.MaxInt - 1, math.MaxInt} {
			s, err := slot.Open(d, at)
			refuses(t, "Open", s, err, api.ErrRange)
		}
	}
	s, err := slot.Open(nil, 0)
	refuses(t, "Open of no device", s, err, api.ErrRange)
}

func TestOpenWithoutPower(t *testing.T) {
	d := device(t, 4)
	formatted(t, d, 0, "a")
	powerless(t, d)
	for _, at := range []int{0, 2} {
		s, err := slot.Open(d, at)
		refuses(t, "Open", s, err, api.ErrDown)
	}
	d.Crash()
	opens(t, d, 0, 1, "a")
	blank(t, d, 2)
}

func TestOpenMakesNoStep(t *testing.T) {
	d := device(t, 4)
	formatted(t, d, 0, "a")
	arm(t, d, 0)
	opens(t, d, 0, 1, "a")
	blank(t, d, 2)
	made(t, d, 3, 1)
	if d.Down() {
		t.Error("an Open lets the power go")
	}
}

func TestOpenOfNothing(t *testing.T) {
	for size := 2; size < 6; size++ {
		d := device(t, size)
		for at := range size - 1 {
			blank(t, d, at)
		}
		made(t, d, 0, 0)
	}
}

func TestOpenTakesTheGreaterNumber(t *testing.T) {
	even := []int{0, 2, 4, 6, 1 << 20, greatest - 2, greatest}
	odd := []int{0, 1, 3, 5, 7, 1<<20 + 1, greatest - 3, greatest - 1}
	for _, low := range even {
		for _, high := range odd {
			d := device(t, 2)
			if low > 0 {
				lay(t, d, 0, of(low, "low"))
			}
			if high > 0 {
				lay(t, d, 1, of(high, "high"))
			}
			switch {
			case low+high == 0:
				blank(t, d, 0)
			case low > high:
				opens(t, d, 0, low, "low")
			default:
				opens(t, d, 0, high, "high")
			}
		}
	}
}

func TestOpenPassesOverNumbersThatDoNotBelong(t *testing.T) {
	for turn, nums := range [][]int{
		{1, 3, -1, -3, 0, -2, -4, greatest - 1, greatest + 1, greatest + 2, math.MaxInt - 1, math.MaxInt, math.MinInt, math.MinInt + 1},
		{2, 4, -1, -3, 0, -2, -4, greatest, greatest + 1, greatest + 2, math.MaxInt - 1, math.MaxInt, math.MinInt, math.MinInt + 1},
	} {
		for _, n := range nums {
			d := device(t, 2)
			lay(t, d, turn, of(n, "no"))
			blank(t, d, 0)
			// The other sector holds then, though its number may be less.
			lay(t, d, 1-turn, of(10+1-turn, "yes"))
			opens(t, d, 0, 10+1-turn, "yes")
		}
	}
}

func TestOpenAtAnotherPlace(t *testing.T) {
	d := device(t, 4)
	s := formatted(t, d, 1, "a")
	saved(t, s, "b", "c")
	for _, at := range []int{0, 2} {
		blank(t, d, at)
	}
	opens(t, d, 1, 3, "c")
}

// bad is sectors of no row for a number: each is refused for one reason.
func bad(n int) map[string][]byte {
	num := binary.AppendVarint(nil, int64(n))
	longer := append(bytes.Clone(num), 0)
	longer[len(num)-1] |= 0x80
	out := map[string][]byte{
		"zeros":                         zeros(),
		"ones":                          bytes.Repeat([]byte{0xff}, 512),
		"an empty box":                  boxed(nil),
		"a number alone":                boxed(num),
		"a row alone":                   boxed([]byte("\x06row")),
		"a row that is cut":             boxed(inside(n, "row")[:len(num)+3]),
		"a row of less than no byte":    boxed(append(bytes.Clone(num), 1)),
		"a byte behind the row":         boxed(append(inside(n, "row"), 0)),
		"another row behind the row":    boxed(append(inside(n, "row"), "\x06row"...)),
		"a row of 481 bytes":            of(n, long(481)),
		"a full box of one row":         of(n, long(504-len(num))),
		"a number in a longer form":     boxed(append(longer, "\x06row"...)),
		"a row's number in longer form": boxed(append(bytes.Clone(num), 0x83, 0, 'r')),
	}
	cut := of(n, "row")
	cut[511] = 1
	out["a box with a byte changed"] = cut
	// Bytes behind what is in a box, under a check that is good for them.
	tail := of(n, "row")[4:]
	tail[len(tail)-1] = 1
	out["a box with a tail"] = append(binary.BigEndian.AppendUint32(nil, crc32.ChecksumIEEE(tail)), tail...)
	return out
}

func TestOpenPassesOverSectorsOfNoRow(t *testing.T) {
	for turn := range 2 {
		for what, b := range bad(4 + turn) {
			d := device(t, 2)
			lay(t, d, turn, b)
			blank(t, d, 0)
			lay(t, d, 1-turn, of(3-turn, "good"))
			opens(t, d, 0, 3-turn, "good")
			lay(t, d, turn, of(4+turn, "mended"))
			opens(t, d, 0, 4+turn, "mended")
			if t.Failed() {
				t.Fatalf("%s, in sector %d", what, turn)
			}
		}
	}
}

func TestOpenPassesOverEveryChangedByte(t *testing.T) {
	d := device(t, 2)
	s := formatted(t, d, 0, "a")
	saved(t, s, "b")
	for i := range 512 {
		b := of(2, "b")
		b[i] ^= byte(1 << (i % 8))
		lay(t, d, 0, b)
		opens(t, d, 0, 1, "a")
	}
}

func TestSaveGoesOnBehindAnOpen(t *testing.T) {
	d := device(t, 2)
	lay(t, d, 0, of(6, "six"))
	lay(t, d, 1, of(3, "three"))
	s := opens(t, d, 0, 6, "six")
	saved(t, s, "seven")
	holds(t, d, 0, of(6, "six"))
	holds(t, d, 1, of(7, "seven"))
	saved(t, opens(t, d, 0, 7, "seven"), "eight")
	holds(t, d, 0, of(8, "eight"))
	opens(t, d, 0, 8, "eight")
	has(t, s, 7, "seven")
}

// P3.1: Save

func TestSaveRefusesRows(t *testing.T) {
	for _, n := range []int{481, 482, 506, 512, 1 << 20} {
		d := device(t, 2)
		s := formatted(t, d, 0, "a")
		arm(t, d, 0)
		answers(t, "Save", s.Save([]byte(long(n))), api.ErrForm)
		made(t, d, 3, 1)
		if d.Down() {
			t.Error("a refused Save lets the power go")
		}
		has(t, s, 1, "a")
		opens(t, d, 0, 1, "a")
		arm(t, d, 9)
		saved(t, s, long(480))
		opens(t, d, 0, 2, long(480))
	}
}

func TestSaveUpToTheGreatestNumber(t *testing.T) {
	d := device(t, 2)
	lay(t, d, 1, of(greatest-1, "last but one"))
	s := opens(t, d, 0, greatest-1, "last but one")
	saved(t, s, long(480))
	has(t, s, greatest, long(480))
	holds(t, d, 0, of(greatest, long(480)))
	steps, syncs := d.Steps(), d.Syncs()
	for range 2 {
		for _, n := range []int{0, 1, 480, 481} {
			answers(t, "Save", s.Save([]byte(long(n))), api.ErrForm)
		}
		made(t, d, steps, syncs)
		has(t, s, greatest, long(480))
		s = opens(t, d, 0, greatest, long(480))
	}
	powerless(t, d)
	answers(t, "form ahead of down", s.Save(nil), api.ErrForm)
	d.Crash()
	saved(t, formatted(t, d, 0, "a"), "b")
	opens(t, d, 0, 2, "b")
}

func TestSaveErrorsInOrder(t *testing.T) {
	d := device(t, 2)
	s := formatted(t, d, 0, "a")
	powerless(t, d)
	answers(t, "form ahead of down", s.Save([]byte(long(481))), api.ErrForm)
	answers(t, "down", s.Save([]byte(long(480))), api.ErrDown)
	answers(t, "form ahead of down", s.Save([]byte(long(481))), api.ErrForm)
}

// P3.1: nil slots

func TestNilSlots(t *testing.T) {
	var s *slot.Slots
	if s.Number() != 0 || len(s.Row()) != 0 {
		t.Error(s.Number(), s.Row())
	}
	for _, n := range []int{0, 1, 480, 481} {
		answers(t, "Save", s.Save([]byte(long(n))), api.ErrDown)
	}
}

// P3.3: what is handed in, and answers

// spared is bytes with spare room behind them, and all of that room.
func spared(s string) ([]byte, []byte) {
	room := append([]byte(s), bytes.Repeat([]byte{77}, 600)...)
	return room[:len(s)], room
}

// spoil writes over bytes, their spare room with them.
func spoil(b []byte) {
	b = b[:cap(b)]
	for i := range b {
		b[i] = 99
	}
}

func TestRowsThatAreHandedIn(t *testing.T) {
	for _, text := range []string{"", "row", long(480), long(481)} {
		row, room := spared(text)
		was := bytes.Clone(room)
		d := device(t, 2)
		s, err := slot.Format(d, 0, row)
		if (err == nil) != (len(text) < 481) || !bytes.Equal(room, was) {
			t.Fatalf("Format: %v, the row is changed: %v", err, !bytes.Equal(room, was))
		}
		if err != nil {
			s = formatted(t, d, 0, "a")
			answers(t, "Save", s.Save(row), api.ErrForm)
			if !bytes.Equal(room, was) {
				t.Fatal("a refused Save changed the row")
			}
			continue
		}
		spoil(row)
		has(t, s, 1, text)
		opens(t, d, 0, 1, text)
		copy(room, was)
		answers(t, "Save", s.Save(row), nil)
		if !bytes.Equal(room, was) {
			t.Fatal("a Save changed the row")
		}
		spoil(row)
		has(t, s, 2, text)
		opens(t, d, 0, 2, text)
	}
}

func TestRowsThatACutSaveWasHanded(t *testing.T) {
	for n := range 2 {
		row, room := spared("cut")
		was := bytes.Clone(room)
		d := device(t, 2)
		s := formatted(t, d, 0, "a")
		arm(t, d, n)
		answers(t, "Save", s.Save(row), api.ErrDown)
		if !bytes.Equal(room, was) {
			t.Error("a Save that was cut changed the row")
		}
		d.Crash()
		arm(t, d, n+1)
		_, err := slot.Format(d, 0, row)
		answers(t, "Format", err, api.ErrDown)
		if !bytes.Equal(room, was) {
			t.Error("a Format that was cut changed the row")
		}
	}
}

func TestRowsThatAreAnswered(t *testing.T) {
	d := device(t, 2)
	s := formatted(t, d, 0, "a")
	saved(t, s, "row")
	for _, s := range []*slot.Slots{s, opens(t, d, 0, 2, "row")} {
		one, two := s.Row(), s.Row()
		spoil(one)
		if string(two) != "row" {
			t.Error("two answers share memory")
		}
		has(t, s, 2, "row")
		// An answer of an empty row must not be spare room of the slots either.
		spoil(two[:0])
		has(t, s, 2, "row")
		holds(t, d, 0, of(2, "row"))
		opens(t, d, 0, 2, "row")
	}
	kept := s.Row()
	saved(t, s, "next", "over")
	if string(kept) != "row" {
		t.Error("an answer changes with a later Save")
	}
	opens(t, d, 0, 4, "over")
}
