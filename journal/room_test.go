package journal_test

import (
	"math"
	"slices"
	"strconv"
	"testing"

	"palimpsest/api"
	"palimpsest/journal"
)

// P4.1: records, and their room

func TestRecordSizes(t *testing.T) {
	for _, size := range []int{1, 2, 467, 468, 469, 470, 471, 937, 938, 939, 940, 4095, 4096} {
		for _, ahead := range []int{1, 200, 465, 466, 467, 468} {
			d, j := made(t, 11)
			recs := records(1, ahead, size)
			appended(t, j, recs...)
			rooms(t, j, 11*470-ahead-size-4, 0)
			has(t, j, 1, recs...)
			flushed(t, j)
			has(t, j, 1, recs...)
			j = opened(t, d, 11)
			has(t, j, 1, recs...)
			rooms(t, j, 11*470-ahead-size-4, 0)
		}
	}
}

func TestRecordsThatAreNone(t *testing.T) {
	_, j := made(t, 40)
	for _, rec := range [][]byte{nil, {}, make([]byte, 4097), make([]byte, 70000)} {
		n, err := j.Append(rec)
		numbers(t, "Append", n, err, 0, api.ErrForm)
		n, err = j.Spend(rec)
		numbers(t, "Spend", n, err, 0, api.ErrForm)
	}
	has(t, j, 1)
	rooms(t, j, 40*470, 0)
	// A record that isn't in form is that first, whatever room there is.
	_, j = made(t, 2)
	answers(t, "Book", j.Book(940), nil)
	n, err := j.Append(make([]byte, 4097))
	numbers(t, "Append", n, err, 0, api.ErrForm)
	n, err = j.Append(make([]byte, 4096))
	numbers(t, "Append", n, err, 0, api.ErrLog)
	n, err = j.Spend(make([]byte, 4096))
	numbers(t, "Spend", n, err, 0, api.ErrLog)
	n, err = j.Spend(nil)
	numbers(t, "Spend", n, err, 0, api.ErrForm)
}

func TestFullToTheLastByte(t *testing.T) {
	for _, n := range []int{2, 3, 9} {
		for _, last := range []int{1, 5, 300} {
			d, j := made(t, n)
			all := []string{record(1, n*470/2-2), record(2, n*470-n*470/2-2-last-2)}
			appended(t, j, all...)
			got, err := j.Append(make([]byte, last+1))
			numbers(t, "Append of a byte too many", got, err, 0, api.ErrLog)
			got, err = j.Spend(make([]byte, last+1))
			numbers(t, "Spend of a byte too many", got, err, 0, api.ErrLog)
			all = append(all, record(3, last))
			appended(t, j, all[2])
			rooms(t, j, 0, 0)
			for _, add := range []func([]byte) (int, error){j.Append, j.Spend} {
				got, err := add([]byte{1})
				numbers(t, "a byte into a full ring", got, err, 0, api.ErrLog)
			}
			answers(t, "Book(0)", j.Book(0), nil)
			answers(t, "Book(1)", j.Book(1), api.ErrLog)
			flushed(t, j)
			has(t, j, 1, all...)
			j = opened(t, d, n)
			has(t, j, 1, all...)
			rooms(t, j, 0, 0)
			trimmed(t, j, 4, "")
			rooms(t, j, 470*n, 0)
			appended(t, j, record(4, min(4096, n*470-2)))
			has(t, j, 4, record(4, min(4096, n*470-2)))
		}
	}
}

func TestGreatestRing(t *testing.T) {
	d := device(t, 4096)
	j := formatted(t, d, 2046, 2048)
	var all []string
	for j.Free() >= 4098 {
		all = append(all, record(len(all), 4096))
		appended(t, j, all[len(all)-1])
	}
	all = append(all, record(len(all), j.Free()-2))
	appended(t, j, all[len(all)-1])
	rooms(t, j, 0, 0)
	flushed(t, j)
	d.Crash()
	open := func() *journal.Journal {
		o, err := journal.Open(d, 2046, 2048)
		answers(t, "Open", err, nil)
		return o
	}
	j = open()
	has(t, j, 1, all...)
	rooms(t, j, 0, 0)
	trimmed(t, j, 101, "half")
	rooms(t, j, 100*4098/470*470, 0)
	for j.Free() >= 4098 {
		all = append(all, record(len(all), 4096))
		appended(t, j, all[len(all)-1])
	}
	flushed(t, j)
	has(t, open(), 101, all[100:]...)
}

func TestAppendsMakeNoStep(t *testing.T) {
	d, j := made(t, 4)
	steps := d.Steps()
	appended(t, j, records(1, 1, 468, 700)...)
	n, err := j.Spend([]byte("spent"))
	numbers(t, "Spend", n, err, 4, nil)
	answers(t, "Book", j.Book(20), nil)
	j.Unbook(5)
	has(t, j, 1, append(records(1, 1, 468, 700), "spent")...)
	if d.Steps() != steps || len(d.Unsynced()) != 0 {
		t.Error("there are steps")
	}
	// Without power nothing of it is refused: it is dead only once it met that.
	powerless(t, d)
	appended(t, j, "more")
	n, err = j.Spend([]byte("spent"))
	numbers(t, "Spend", n, err, 6, nil)
	answers(t, "Book", j.Book(20), nil)
	j.Unbook(5)
	rooms(t, j, 4*470-1-468-700-5-4-5-12, 30)
	has(t, j, 1, append(records(1, 1, 468, 700), "spent", "more", "spent")...)
	if j.Dead() || j.Flushed() != 1 {
		t.Error("dead, or flushed")
	}
}

// P4.1: bookings

func TestBookings(t *testing.T) {
	d, j := made(t, 2)
	for _, n := range []int{-1, math.MinInt} {
		answers(t, "Book below 0", j.Book(n), api.ErrRange)
		j.Unbook(n)
	}
	for _, n := range []int{941, math.MaxInt} {
		answers(t, "Book of too much", j.Book(n), api.ErrLog)
	}
	rooms(t, j, 940, 0)
	answers(t, "Book(0)", j.Book(0), nil)
	answers(t, "Book(900)", j.Book(900), nil)
	rooms(t, j, 940, 900)
	answers(t, "Book(41)", j.Book(41), api.ErrLog)
	answers(t, "Book(MaxInt)", j.Book(math.MaxInt), api.ErrLog)
	n, err := j.Append(make([]byte, 39))
	numbers(t, "Append of 39", n, err, 0, api.ErrLog)
	appended(t, j, record(1, 18))
	rooms(t, j, 920, 900)
	answers(t, "Book(20)", j.Book(20), nil)
	answers(t, "Book(1)", j.Book(1), api.ErrLog)
	answers(t, "Book(0)", j.Book(0), nil)
	n, err = j.Append([]byte{1})
	numbers(t, "Append into booked room", n, err, 0, api.ErrLog)
	n, err = j.Spend([]byte(record(2, 98)))
	numbers(t, "Spend", n, err, 2, nil)
	rooms(t, j, 820, 920)
	// More is booked than there is room: not even nothing can be booked.
	answers(t, "Book(0)", j.Book(0), api.ErrLog)
	n, err = j.Append([]byte{1})
	numbers(t, "Append", n, err, 0, api.ErrLog)
	j.Unbook(-1)
	j.Unbook(0)
	rooms(t, j, 820, 920)
	j.Unbook(103)
	rooms(t, j, 820, 817)
	appended(t, j, "a")
	flushed(t, j)
	trimmed(t, j, 3, "")
	rooms(t, j, 820-3, 817)
	j.Unbook(818)
	rooms(t, j, 817, 0)
	answers(t, "Book(817)", j.Book(817), nil)
	j.Unbook(math.MaxInt)
	rooms(t, j, 817, 0)
	answers(t, "Book(10)", j.Book(10), nil)
	rooms(t, opened(t, d, 2), 817, 0)
}

func TestSpendUpToTheLastByte(t *testing.T) {
	_, j := made(t, 2)
	answers(t, "Book", j.Book(940), nil)
	n, err := j.Append([]byte{1})
	numbers(t, "Append", n, err, 0, api.ErrLog)
	n, err = j.Spend(make([]byte, 939))
	numbers(t, "Spend of 939", n, err, 0, api.ErrLog)
	rec := record(1, 938)
	n, err = j.Spend([]byte(rec))
	numbers(t, "Spend of 938", n, err, 1, nil)
	rooms(t, j, 0, 940)
	n, err = j.Spend([]byte{1})
	numbers(t, "Spend of a byte", n, err, 0, api.ErrLog)
	has(t, j, 1, rec)
}

// P4.1: trims

func TestTrimAtEachRecord(t *testing.T) {
	sizes := []int{100, 366, 1, 468, 466, 300, 90, 60}
	all := records(1, sizes...)
	begins := []int{0}
	for _, size := range sizes {
		begins = append(begins, begins[len(begins)-1]+size+2)
	}
	for lsn := 1; lsn <= 9; lsn++ {
		for _, when := range []string{"ahead of a Flush", "behind a Flush"} {
			d, j := made(t, 4)
			appended(t, j, all...)
			if when == "behind a Flush" {
				flushed(t, j)
			}
			trimmed(t, j, lsn, when)
			if j.Flushed() != 9 {
				t.Errorf("flushed %d", j.Flushed())
			}
			free := 4*470 - (begins[8] - begins[lsn-1]/470*470)
			d.Crash()
			for range 2 {
				has(t, j, lsn, all[lsn-1:]...)
				rooms(t, j, free, 0)
				if string(j.Note()) != when {
					t.Errorf("note %q, want %q", j.Note(), when)
				}
				j = opened(t, d, 4)
			}
			for _, bad := range []int{lsn - 1, 10, 0, -1, math.MinInt, math.MaxInt} {
				answers(t, "Trim outside", j.Trim(bad, nil), api.ErrRange)
			}
			has(t, j, lsn, all[lsn-1:]...)
			rec := record(50, free-2)
			appended(t, j, rec)
			rooms(t, j, 0, 0)
			flushed(t, j)
			has(t, opened(t, d, 4), lsn, append(slices.Clone(all[lsn-1:]), rec)...)
		}
	}
}

func TestRoomWithoutRecords(t *testing.T) {
	for _, size := range []int{1, 100, 467, 468, 469, 938} {
		_, j := made(t, 3)
		appended(t, j, record(1, size))
		trimmed(t, j, 2, "")
		rooms(t, j, 3*470-(size+2)%470, 0)
	}
}

func TestNotes(t *testing.T) {
	d, j := made(t, 2)
	appended(t, j, "a", "b")
	for i, size := range []int{1, 400, 0, 399, 400} {
		note := record(i, size)
		trimmed(t, j, 1, note)
		d.Crash()
		j = opened(t, d, 2)
		if string(j.Note()) != note {
			t.Errorf("a note of %d bytes: %d bytes", size, len(j.Note()))
		}
	}
	was, steps := string(j.Note()), d.Steps()
	for _, size := range []int{401, 402, 480, 481, 70000} {
		answers(t, "Trim with a note that is too long", j.Trim(2, make([]byte, size)), api.ErrForm)
		answers(t, "Trim outside with a note that is too long", j.Trim(4, make([]byte, size)), api.ErrRange)
	}
	if string(j.Note()) != was || d.Steps() != steps || j.Dead() {
		t.Error("a refused Trim changes something")
	}
	has(t, j, 1, "a", "b")
	flushed(t, j)
	appended(t, j, "c")
	flushed(t, j)
	if string(opened(t, d, 2).Note()) != was {
		t.Error("a Flush changes the note")
	}
	trimmed(t, j, 1, "")
	if string(opened(t, d, 2).Note()) != "" {
		t.Error("a note is there still")
	}
}

func TestRefusedTrimsFlushNothing(t *testing.T) {
	d, j := made(t, 2)
	appended(t, j, "a")
	answers(t, "Trim", j.Trim(0, nil), api.ErrRange)
	answers(t, "Trim", j.Trim(3, nil), api.ErrRange)
	answers(t, "Trim", j.Trim(1, make([]byte, 401)), api.ErrForm)
	if j.Flushed() != 1 {
		t.Error("flushed")
	}
	has(t, opened(t, d, 2), 1)
}

func TestRoundAndRound(t *testing.T) {
	d, j := made(t, 4)
	var all []string
	for i := range 300 {
		all = append(all, record(i, 1+i*37%460))
		appended(t, j, all[i])
		if i%3 == 0 {
			flushed(t, j)
		}
		if i > 0 {
			trimmed(t, j, i, strconv.Itoa(i))
		}
		if i%5 == 0 {
			d.Crash()
			j = opened(t, d, 4)
		}
		has(t, j, max(1, i), all[max(0, i-1):]...)
	}
}
