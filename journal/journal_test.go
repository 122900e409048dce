package journal_test

import (
	"bytes"
	"math"
	"slices"
	"strconv"
	"testing"

	"palimpsest/api"
	"palimpsest/disk"
	"palimpsest/journal"
	"palimpsest/slot"
)

// The calls must have just these signatures: the layers above are built on them.
var (
	_       func(d *disk.Device, at, n int) (*journal.Journal, error) = journal.Format
	_       func(d *disk.Device, at, n int) (*journal.Journal, error) = journal.Open
	_       func(j *journal.Journal, rec []byte) (int, error)         = (*journal.Journal).Append
	_       func(j *journal.Journal, rec []byte) (int, error)         = (*journal.Journal).Spend
	_       func(j *journal.Journal, n int) error                     = (*journal.Journal).Book
	_       func(j *journal.Journal, n int)                           = (*journal.Journal).Unbook
	_       func(j *journal.Journal) error                            = (*journal.Journal).Flush
	_       func(j *journal.Journal, lsn int, note []byte) error      = (*journal.Journal).Trim
	_       func(j *journal.Journal, lsn int) ([]byte, error)         = (*journal.Journal).Get
	_, _, _ func(j *journal.Journal) int                              = (*journal.Journal).First, (*journal.Journal).Next, (*journal.Journal).Flushed
	_       func(j *journal.Journal) []byte                           = (*journal.Journal).Note
	_, _    func(j *journal.Journal) int                              = (*journal.Journal).Free, (*journal.Journal).Booked
	_       func(j *journal.Journal) bool                             = (*journal.Journal).Dead
)

// device is a device of so many sectors.
func device(t *testing.T, size int) *disk.Device {
	t.Helper()
	d, err := disk.New(size)
	if err != nil {
		t.Fatal(err)
	}
	return d
}

// formatted is a journal of n sectors at a place, that must be made.
func formatted(t *testing.T, d *disk.Device, at, n int) *journal.Journal {
	t.Helper()
	j, err := journal.Format(d, at, n)
	if err != nil || j == nil {
		t.Fatalf("Format(%d, %d): %v, %v", at, n, j, err)
	}
	return j
}

// made is a journal of n sectors on a new device that has no others.
func made(t *testing.T, n int) (*disk.Device, *journal.Journal) {
	t.Helper()
	d := device(t, n+2)
	return d, formatted(t, d, 0, n)
}

// opened is a journal of n sectors at the beginning of a device, that must be there.
func opened(t *testing.T, d *disk.Device, n int) *journal.Journal {
	t.Helper()
	j, err := journal.Open(d, 0, n)
	if err != nil || j == nil {
		t.Fatalf("Open(0, %d): %v, %v", n, j, err)
	}
	return j
}

// record is a record of so many bytes; those of neighbouring serials differ from the first byte on.
func record(serial, size int) string {
	b := make([]byte, size)
	for i := range b {
		b[i] = byte(serial + 11*i + i*i*(serial>>8+1))
	}
	return string(b)
}

// records is a record of each size, their serials from one on.
func records(serial int, sizes ...int) []string {
	var out []string
	for i, size := range sizes {
		out = append(out, record(serial+i, size))
	}
	return out
}

// appended appends records that must be taken, each under the next number.
func appended(t *testing.T, j *journal.Journal, recs ...string) {
	t.Helper()
	for _, rec := range recs {
		want := j.Next()
		if n, err := j.Append([]byte(rec)); n != want || err != nil {
			t.Fatalf("Append of %d bytes: %d, %v, want %d", len(rec), n, err, want)
		}
	}
}

// flushed flushes a journal, which must be done.
func flushed(t *testing.T, j *journal.Journal) {
	t.Helper()
	if err := j.Flush(); err != nil || j.Flushed() != j.Next() {
		t.Fatalf("Flush: %v, flushed %d, next %d", err, j.Flushed(), j.Next())
	}
}

// trimmed trims a journal, which must be done.
func trimmed(t *testing.T, j *journal.Journal, lsn int, note string) {
	t.Helper()
	if err := j.Trim(lsn, []byte(note)); err != nil || j.First() != lsn || string(j.Note()) != note {
		t.Fatalf("Trim(%d): %v, first %d, note %q", lsn, err, j.First(), j.Note())
	}
}

// answers holds an error against the one that is wanted.
func answers(t *testing.T, what string, got, want error) {
	t.Helper()
	if got != want {
		t.Errorf("%s: %v, want %v", what, got, want)
	}
}

// numbers holds a number and an error against what is wanted.
func numbers(t *testing.T, what string, n int, err error, want int, wantErr error) {
	t.Helper()
	if n != want || err != wantErr {
		t.Errorf("%s: %d, %v, want %d, %v", what, n, err, want, wantErr)
	}
}

// refuses holds a journal that Format or Open answered against an error with nothing beside it.
func refuses(t *testing.T, what string, j *journal.Journal, err, want error) {
	t.Helper()
	if j != nil || err != want {
		t.Errorf("%s: %v, %v, want none, %v", what, j, err, want)
	}
}

// has holds a journal's records, from a number on, against those that it should have, and asks that there are no others.
func has(t *testing.T, j *journal.Journal, first int, recs ...string) {
	t.Helper()
	if j.First() != first || j.Next() != first+len(recs) {
		t.Errorf("records from %d to %d, want from %d to %d", j.First(), j.Next()-1, first, first+len(recs)-1)
		return
	}
	for i, want := range recs {
		if b, err := j.Get(first + i); err != nil || string(b) != want {
			t.Errorf("record %d: %d bytes beginning with %x, %v, want %d bytes", first+i, len(b), b[:min(len(b), 4)], err, len(want))
		}
	}
	for _, lsn := range []int{math.MinInt, -1, 0, first - 1, first + len(recs), first + len(recs) + 1, math.MaxInt} {
		if b, err := j.Get(lsn); len(b) != 0 || err != api.ErrGone {
			t.Errorf("record %d: %d bytes, %v, want none, %v", lsn, len(b), err, api.ErrGone)
		}
	}
}

// rooms holds Free and Booked against what is wanted.
func rooms(t *testing.T, j *journal.Journal, free, booked int) {
	t.Helper()
	if j.Free() != free || j.Booked() != booked {
		t.Errorf("free %d, booked %d, want %d, %d", j.Free(), j.Booked(), free, booked)
	}
}

// arm arms a device.
func arm(t *testing.T, d *disk.Device, n int) {
	t.Helper()
	if err := d.Arm(n); err != nil {
		t.Fatal(err)
	}
}

// powerless lets a device's power go.
func powerless(t *testing.T, d *disk.Device) {
	t.Helper()
	arm(t, d, 0)
	answers(t, "Sync", d.Sync(), api.ErrDown)
}

// fills writes all sectors from one on to another with a byte, and syncs them.
func fills(t *testing.T, d *disk.Device, from, to int, c byte) {
	t.Helper()
	for at := from; at < to; at++ {
		answers(t, "Write", d.Write(at, bytes.Repeat([]byte{c}, 512)), nil)
	}
	answers(t, "Sync", d.Sync(), nil)
}

// P4.1: the example, and where a journal may stand

func TestExample(t *testing.T) {
	d, j := made(t, 2)
	rooms(t, j, 940, 0)
	first := record(1, 468)
	appended(t, j, first)
	rooms(t, j, 470, 0)
	n, err := j.Append(make([]byte, 469))
	numbers(t, "Append of 469", n, err, 0, api.ErrLog)
	flushed(t, j)
	has(t, j, 1, first)
	trimmed(t, j, 2, "x")
	rooms(t, j, 940, 0)
	appended(t, j, "a")
	has(t, j, 2, "a")
	flushed(t, j)
	j = opened(t, d, 2)
	has(t, j, 2, "a")
	rooms(t, j, 937, 0)
}

func TestNewJournal(t *testing.T) {
	for _, n := range []int{2, 3, 2047, 2048} {
		d, j := made(t, n)
		for range 2 {
			has(t, j, 1)
			rooms(t, j, 470*n, 0)
			if j.Flushed() != 1 || len(j.Note()) != 0 || j.Dead() {
				t.Errorf("ring of %d: flushed %d, note %q, dead %v", n, j.Flushed(), j.Note(), j.Dead())
			}
			if un := d.Unsynced(); len(un) != 0 {
				t.Errorf("ring of %d: unsynced %v", n, un)
			}
			d.Crash()
			j = opened(t, d, n)
		}
	}
}

func TestPlacesAndRings(t *testing.T) {
	least, greatest := math.MinInt, math.MaxInt
	for _, c := range []struct {
		size, at, n int
		fits        bool
	}{
		{4, 0, 2, true}, {4, 1, 2, false}, {3, 0, 2, false}, {4, -1, 2, false}, {4, 0, 1, false}, {4, 0, 3, false},
		{9, 3, 4, true}, {9, 4, 4, false}, {9, 5, 2, true}, {9, 6, 2, false}, {9, 9, 2, false}, {9, 0, 7, true}, {9, 0, 8, false},
		{2050, 0, 2048, true}, {2049, 0, 2048, false}, {2050, 1, 2048, false}, {4096, 0, 2049, false},
		{4096, 2046, 2048, true}, {4096, 2047, 2048, false}, {4096, 4092, 2, true}, {4096, 4093, 2, false},
		{1, 0, 2, false}, {9, 0, 0, false}, {9, 0, -1, false}, {9, 0, least, false}, {9, 0, greatest, false},
		{9, least, 2, false}, {9, greatest, 2, false}, {9, greatest - 3, 2, false}, {9, greatest, greatest, false},
		{9, least, least, false}, {9, greatest, least, false}, {9, least, greatest, false}, {4096, -2049, 2049, false},
	} {
		d := device(t, c.size)
		what := "size " + strconv.Itoa(c.size) + ", at " + strconv.Itoa(c.at) + ", ring " + strconv.Itoa(c.n)
		if c.fits {
			_, err := journal.Open(d, c.at, c.n)
			answers(t, "Open, "+what, err, api.ErrBlank)
			formatted(t, d, c.at, c.n)
			_, err = journal.Open(d, c.at, c.n)
			answers(t, "Open, "+what, err, nil)
			continue
		}
		steps := d.Steps()
		for range 2 {
			j, err := journal.Format(d, c.at, c.n)
			refuses(t, "Format, "+what, j, err, api.ErrRange)
			j, err = journal.Open(d, c.at, c.n)
			refuses(t, "Open, "+what, j, err, api.ErrRange)
			powerless(t, d)
		}
		if d.Steps() != steps {
			t.Error(what, ": a refused call makes steps")
		}
	}
}

func TestNoDevice(t *testing.T) {
	for _, n := range []int{0, 2} {
		j, err := journal.Format(nil, 0, n)
		refuses(t, "Format", j, err, api.ErrRange)
		j, err = journal.Open(nil, 0, n)
		refuses(t, "Open", j, err, api.ErrRange)
	}
}

func TestJournalKeepsToItsSectors(t *testing.T) {
	const size, n = 12, 3
	for at := 0; at <= size-2-n; at++ {
		d := device(t, size)
		fills(t, d, 0, size, 7)
		j := formatted(t, d, at, n)
		for lsn := 1; lsn < 20; lsn++ {
			appended(t, j, record(lsn, 300))
			trimmed(t, j, lsn, "note")
		}
		for i := range size {
			b, err := d.Read(i)
			answers(t, "Read", err, nil)
			if (i < at || i >= at+2+n) && !bytes.Equal(b, bytes.Repeat([]byte{7}, 512)) {
				t.Errorf("a journal at %d writes sector %d", at, i)
			}
		}
		j, err := journal.Open(d, at, n)
		answers(t, "Open", err, nil)
		has(t, j, 19, record(19, 300))
	}
}

func TestTwoJournals(t *testing.T) {
	d := device(t, 10)
	a, b := formatted(t, d, 0, 2), formatted(t, d, 4, 4)
	appended(t, a, "one")
	appended(t, b, "two", "three")
	flushed(t, a)
	flushed(t, b)
	trimmed(t, b, 2, "note")
	d.Crash()
	has(t, opened(t, d, 2), 1, "one")
	b, err := journal.Open(d, 4, 4)
	answers(t, "Open", err, nil)
	has(t, b, 2, "three")
}

// P4.1: Format and Open over whatever is there

func TestOpenWithoutSlots(t *testing.T) {
	for _, c := range []byte{0, 1, 0xff} {
		d := device(t, 6)
		fills(t, d, 0, 6, c)
		j, err := journal.Open(d, 0, 4)
		refuses(t, "Open", j, err, api.ErrBlank)
		powerless(t, d)
		j, err = journal.Open(d, 0, 4)
		refuses(t, "Open without power", j, err, api.ErrDown)
	}
}

func TestOpenOfOtherRows(t *testing.T) {
	long := string(bytes.Repeat([]byte{2}, 404))
	for _, row := range []string{
		"", "a", "\x02\x00", "\x02\x00\x80", "\x00\x00\x00", "\x01\x00\x00", "\x02\x01\x00", "\x02\x02\x00", "\x02\x00\x01", long,
	} {
		d := device(t, 6)
		if _, err := slot.Format(d, 0, []byte(row)); err != nil {
			t.Fatal(err)
		}
		j, err := journal.Open(d, 0, 4)
		refuses(t, "Open of another's row", j, err, api.ErrBlank)
		formatted(t, d, 0, 4)
		has(t, opened(t, d, 4), 1)
	}
}

func TestFormatOverAJournal(t *testing.T) {
	for filled := range 9 {
		d, j := made(t, 4)
		fills(t, d, 2, 6, 9)
		for i := range filled {
			appended(t, j, record(i, 200))
			flushed(t, j)
		}
		if filled > 4 {
			trimmed(t, j, 4, "old")
		}
		j = formatted(t, d, 0, 4)
		if un := d.Unsynced(); len(un) != 0 {
			t.Errorf("unsynced %v", un)
		}
		d.Crash()
		for range 2 {
			has(t, j, 1)
			rooms(t, j, 4*470, 0)
			if len(j.Note()) != 0 || j.Flushed() != 1 {
				t.Errorf("note %q, flushed %d", j.Note(), j.Flushed())
			}
			j = opened(t, d, 4)
		}
		// Records that take the same room are there alone, though those that were there ahead stand behind them still.
		for i := range 5 {
			appended(t, j, record(100+i, 200))
			flushed(t, j)
			has(t, opened(t, d, 4), 1, records(100, slices.Repeat([]int{200}, i+1)...)...)
		}
	}
}

func TestFormatIsCut(t *testing.T) {
	for _, filled := range []int{0, 3} {
		for steps := 0; ; steps++ {
			d, j := made(t, 4)
			for i := range filled {
				appended(t, j, record(i, 200))
				flushed(t, j)
			}
			arm(t, d, steps)
			j, err := journal.Format(d, 0, 4)
			if err == nil {
				has(t, j, 1)
				break
			}
			refuses(t, "Format", j, err, api.ErrDown)
			j, err = journal.Open(d, 0, 4)
			refuses(t, "Open without power", j, err, api.ErrDown)
			j, err = journal.Format(d, 0, 4)
			refuses(t, "Format without power", j, err, api.ErrDown)
			un := d.Unsynced()
			d.Crash(un...)
			// What is there now is free, but a journal is none beside an error.
			if j, err = journal.Open(d, 0, 4); err != nil {
				refuses(t, "Open behind a Format that was cut", j, err, api.ErrBlank)
			}
			j = formatted(t, d, 0, 4)
			appended(t, j, "new")
			flushed(t, j)
			has(t, opened(t, d, 4), 1, "new")
		}
	}
}

func TestOpenOfAPieceThatIsBroken(t *testing.T) {
	sizes := []int{100, 468, 1, 700, 90, 200}
	all := records(1, sizes...)
	for sector := 2; sector < 6; sector++ {
		d, j := made(t, 4)
		appended(t, j, all...)
		flushed(t, j)
		fills(t, d, sector, sector+1, 5)
		j = opened(t, d, 4)
		if j.Next() > 6 {
			t.Errorf("sector %d broken: next %d", sector, j.Next())
		}
		has(t, j, 1, all[:j.Next()-1]...)
		appended(t, j, "new")
		flushed(t, j)
		was := j.Next()
		has(t, opened(t, d, 4), 1, append(slices.Clone(all[:was-2]), "new")...)
	}
}

// What a ring of another size finds of a journal is the beginning of its records, up to the first piece that isn't in place.
func TestOpenOfAnotherRing(t *testing.T) {
	for _, filled := range []int{0, 1, 3, 9, 30} {
		for _, n := range []int{2, 3, 5, 8} {
			d := device(t, 12)
			j := formatted(t, d, 0, 4)
			var all []string
			for i := range filled {
				all = append(all, record(i, 200))
				appended(t, j, all[i])
				trimmed(t, j, max(1, i-4), "note")
			}
			first := j.First()
			j = opened(t, d, n)
			if j.First() != first || j.Next() > len(all)+1 || j.Free() < 0 || j.Free() > 470*n {
				t.Errorf("ring of %d: first %d, next %d, free %d", n, j.First(), j.Next(), j.Free())
				continue
			}
			has(t, j, first, all[first-1:j.Next()-1]...)
			has(t, opened(t, d, 4), first, all[first-1:]...)
		}
	}
}

// P4.1: nil journals, and dead ones

func TestNil(t *testing.T) {
	var j *journal.Journal
	for _, rec := range [][]byte{nil, {1}, make([]byte, 4097)} {
		n, err := j.Append(rec)
		numbers(t, "Append", n, err, 0, api.ErrDown)
		n, err = j.Spend(rec)
		numbers(t, "Spend", n, err, 0, api.ErrDown)
		answers(t, "Trim", j.Trim(0, rec), api.ErrDown)
		answers(t, "Trim", j.Trim(1, rec), api.ErrDown)
	}
	answers(t, "Flush", j.Flush(), api.ErrDown)
	answers(t, "Book(-1)", j.Book(-1), api.ErrRange)
	answers(t, "Book(0)", j.Book(0), nil)
	answers(t, "Book(1)", j.Book(1), api.ErrLog)
	for _, n := range []int{math.MinInt, -1, 0, 1, math.MaxInt} {
		j.Unbook(n)
		if b, err := j.Get(n); len(b) != 0 || err != api.ErrGone {
			t.Errorf("Get(%d): %v, %v", n, b, err)
		}
	}
	if j.First() != 0 || j.Next() != 0 || j.Flushed() != 0 || len(j.Note()) != 0 || j.Free() != 0 || j.Booked() != 0 || !j.Dead() {
		t.Error("nil has something")
	}
}

// dead tells of a journal that isn't dead, or that makes a step.
func dead(t *testing.T, d *disk.Device, j *journal.Journal) {
	t.Helper()
	steps, unsynced := d.Steps(), len(d.Unsynced())
	if !j.Dead() {
		t.Error("not dead")
	}
	for _, rec := range [][]byte{nil, {1}, make([]byte, 4096), make([]byte, 4097)} {
		n, err := j.Append(rec)
		numbers(t, "Append to a dead journal", n, err, 0, api.ErrDown)
		n, err = j.Spend(rec)
		numbers(t, "Spend of a dead journal", n, err, 0, api.ErrDown)
		for _, lsn := range []int{0, j.First(), j.Next(), j.Next() + 1} {
			answers(t, "Trim of a dead journal", j.Trim(lsn, rec), api.ErrDown)
		}
	}
	answers(t, "Flush of a dead journal", j.Flush(), api.ErrDown)
	if d.Steps() != steps || len(d.Unsynced()) != unsynced {
		t.Error("a dead journal makes steps")
	}
}

func TestDeadJournalsAnswer(t *testing.T) {
	d, j := made(t, 2)
	appended(t, j, "a", "b", "c")
	trimmed(t, j, 2, "note")
	appended(t, j, "d")
	answers(t, "Book", j.Book(9), nil)
	powerless(t, d)
	answers(t, "Flush", j.Flush(), api.ErrDown)
	for range 2 {
		dead(t, d, j)
		has(t, j, 2, "b", "c", "d")
		rooms(t, j, 940-12, 9)
		if j.Flushed() != 4 || string(j.Note()) != "note" {
			t.Errorf("flushed %d, note %q", j.Flushed(), j.Note())
		}
		answers(t, "Book(-1)", j.Book(-1), api.ErrRange)
		answers(t, "Book(920)", j.Book(920), api.ErrLog)
		answers(t, "Book(3)", j.Book(3), nil)
		rooms(t, j, 928, 12)
		j.Unbook(3)
		d.Crash()
	}
	has(t, opened(t, d, 2), 2, "b", "c")
}

func TestPowerThatIsGone(t *testing.T) {
	for _, fresh := range []bool{false, true} {
		for _, call := range []func(j *journal.Journal) error{
			(*journal.Journal).Flush,
			func(j *journal.Journal) error { return j.Trim(1, nil) },
			func(j *journal.Journal) error { return j.Trim(j.Next(), []byte("note")) },
		} {
			d, j := made(t, 2)
			appended(t, j, "a")
			flushed(t, j)
			if fresh {
				appended(t, j, "b")
			}
			powerless(t, d)
			if j.Dead() {
				t.Error("dead ahead of any call")
			}
			answers(t, "a call without power", call(j), api.ErrDown)
			dead(t, d, j)
			d.Crash()
			dead(t, d, j)
			o := opened(t, d, 2)
			has(t, o, 1, "a")
			if o.Dead() {
				t.Error("dead behind an Open")
			}
		}
	}
}

func TestPowerThatWentBetweenCalls(t *testing.T) {
	d, j := made(t, 2)
	appended(t, j, "a")
	powerless(t, d)
	d.Crash()
	appended(t, j, "b")
	flushed(t, j)
	has(t, opened(t, d, 2), 1, "a", "b")
}

// P4.5: nothing is changed or kept

func TestRecordsAreNotKept(t *testing.T) {
	d, j := made(t, 4)
	for i, add := range []func([]byte) (int, error){j.Append, j.Spend} {
		room := []byte("a record and spare room")
		rec := room[:8]
		if _, err := add(rec); err != nil || string(room) != "a record and spare room" {
			t.Errorf("%v, %q", err, room)
		}
		clear(room)
		if b, err := j.Get(i + 1); err != nil || string(b) != "a record" {
			t.Errorf("%q, %v", b, err)
		}
	}
	flushed(t, j)
	has(t, opened(t, d, 4), 1, "a record", "a record")
}

func TestNotesAreNotKept(t *testing.T) {
	d, j := made(t, 4)
	appended(t, j, "a")
	room := []byte("note and spare room")
	answers(t, "Trim", j.Trim(1, room[:4]), nil)
	if string(room) != "note and spare room" {
		t.Errorf("%q", room)
	}
	clear(room)
	if string(j.Note()) != "note" || string(opened(t, d, 4).Note()) != "note" {
		t.Errorf("%q", j.Note())
	}
	answers(t, "Trim", j.Trim(2, nil), nil)
	if string(opened(t, d, 4).Note()) != "" {
		t.Error("a note is there still")
	}
}

func TestAnswersAreNewMemory(t *testing.T) {
	d, j := made(t, 4)
	appended(t, j, "one", "two")
	trimmed(t, j, 1, "note")
	appended(t, j, "three")
	for range 2 {
		for lsn := 1; lsn < j.Next(); lsn++ {
			b, err := j.Get(lsn)
			answers(t, "Get", err, nil)
			clear(b[:cap(b)])
		}
		clear(j.Note())
		has(t, j, 1, "one", "two", "three")
		if string(j.Note()) != "note" {
			t.Errorf("note %q", j.Note())
		}
		flushed(t, j)
		j = opened(t, d, 4)
	}
}
