package wire_test

import (
	"bytes"
	"encoding/binary"
	"math"
	"slices"
	"testing"

	"palimpsest/api"
	"palimpsest/wire"
)

// The calls must have just these signatures: the layers above are built on them.
var (
	_ func(out []byte, nums ...int) []byte            = wire.Put
	_ func([]byte) (int, []byte, error)               = wire.Take
	_ func([]byte, int) ([]int, []byte, error)        = wire.Takes
	_ func([]byte, []byte) []byte                     = wire.PutRow
	_ func([]byte) ([]byte, []byte, error)            = wire.TakeRow
	_ func(parts ...[]byte) uint32                    = wire.Check
	_ func(size int, parts ...[]byte) ([]byte, error) = wire.Box
	_ func([]byte) ([]byte, error)                    = wire.Unbox
)

// edges is the numbers at which the form's length changes, on both sides of 0, with their neighbours.
func edges() []int {
	out := []int{0, math.MaxInt, math.MaxInt - 1, math.MinInt, math.MinInt + 1}
	for bit := range 63 {
		n := 1 << bit
		out = append(out, n-1, n, n+1, -n-1, -n, -n+1)
	}
	return out
}

// drawn is numbers of all lengths, drawn by a fixed rule.
func drawn(count int) []int {
	state := uint64(7)
	var out []int
	for i := range count {
		state = state*6364136223846793005 + 1442695040888963407
		mixed := state ^ state>>29
		out = append(out, int(int64(mixed)>>(i%64)))
	}
	return out
}

// form is a number's bytes by the standard library, whose signed numbers are laid in the same way.
func form(n int) []byte { return binary.AppendVarint(nil, int64(n)) }

// refused holds an answer of Take, Takes or TakeRow, as lists, against an error with nothing beside it.
func refused[A, B any](t *testing.T, what string, a []A, b []B, err, want error) {
	t.Helper()
	if err != want || len(a) != 0 || len(b) != 0 {
		t.Errorf("%s: %v, %v, %v, want %v and nothing beside it", what, a, b, err, want)
	}
}

// P2.1: numbers

func TestPutExample(t *testing.T) {
	if b := wire.Put(nil, 0, -1, 1, 64); !bytes.Equal(b, []byte{0, 1, 2, 0x80, 1}) {
		t.Errorf("%x", b)
	}
}

func TestPutForms(t *testing.T) {
	top := bytes.Repeat([]byte{0xff}, 9)
	for _, c := range []struct {
		n    int
		want []byte
	}{
		{0, []byte{0}}, {-1, []byte{1}}, {1, []byte{2}}, {-2, []byte{3}},
		{63, []byte{0x7e}}, {-64, []byte{0x7f}}, {64, []byte{0x80, 1}}, {-65, []byte{0x81, 1}},
		{8191, []byte{0xfe, 0x7f}}, {-8192, []byte{0xff, 0x7f}}, {8192, []byte{0x80, 0x80, 1}},
		{1 << 62, append(bytes.Repeat([]byte{0x80}, 9), 1)},
		{math.MaxInt, append([]byte{0xfe}, append(slices.Clone(top[1:]), 1)...)},
		{math.MinInt, append(slices.Clone(top), 1)},
	} {
		if b := wire.Put(nil, c.n); !bytes.Equal(b, c.want) {
			t.Errorf("Put of %d: %x, want %x", c.n, b, c.want)
		}
	}
}

func TestPutManyBehindOut(t *testing.T) {
	nums := append(edges(), drawn(1000)...)
	want := []byte("out")
	for _, n := range nums {
		if b := wire.Put([]byte("z"), n); !bytes.Equal(b, append([]byte("z"), form(n)...)) {
			t.Errorf("Put of %d: %x", n, b)
		}
		want = append(want, form(n)...)
	}
	if b := wire.Put([]byte("out"), nums...); !bytes.Equal(b, want) {
		t.Error("Put of many")
	}
	if b := wire.Put([]byte("out")); string(b) != "out" {
		t.Errorf("Put of no number: %q", b)
	}
	if b := wire.Put(nil); len(b) != 0 {
		t.Errorf("Put of nothing: %q", b)
	}
}

func TestTakeRefuses(t *testing.T) {
	high := func(n int, last ...byte) []byte { return append(bytes.Repeat([]byte{0xff}, n), last...) }
	zero := func(n int, last ...byte) []byte { return append(bytes.Repeat([]byte{0x80}, n), last...) }
	for _, b := range [][]byte{
		nil, {}, {0x80}, {0xff}, {0x80, 0}, {0xff, 0}, {0x81, 0x80, 0}, {0x80, 0, 5},
		high(9), high(10), high(200), zero(9), zero(10), zero(200), // that never end
		high(9, 0), zero(9, 0), zero(8, 0), // that have a longer form than they need
		high(9, 2), high(9, 3), high(9, 0x7f), zero(9, 2), zero(9, 0x40), // beyond 64 bits
		high(9, 0x81), high(10, 0), high(10, 1), zero(10, 1), high(9, 0x81, 0),
	} {
		n, rest, err := wire.Take(b)
		refused(t, "Take", []int{}, rest, err, api.ErrBox)
		nums, rest, err := wire.Takes(b, 1)
		refused(t, "Takes", nums, rest, err, api.ErrBox)
		row, rest, err := wire.TakeRow(b)
		refused(t, "TakeRow", row, rest, err, api.ErrBox)
		if n != 0 {
			t.Errorf("Take of %x: %d beside an error", b, n)
		}
	}
}

func TestTakesCounts(t *testing.T) {
	nums := drawn(4096)
	b := append(wire.Put(nil, nums...), 0x80, 7)
	for _, count := range []int{0, 1, 2, 63, 4095, 4096} {
		got, rest, err := wire.Takes(b, count)
		if err != nil || !slices.Equal(got, nums[:count]) {
			t.Fatalf("Takes of %d: %d numbers, %v", count, len(got), err)
		}
		if want := append(wire.Put(nil, nums[count:]...), 0x80, 7); !bytes.Equal(rest, want) {
			t.Fatalf("Takes of %d: %d bytes behind, want %d", count, len(rest), len(want))
		}
	}
	for _, count := range []int{math.MinInt, -1, 4097, math.MaxInt} {
		for _, b := range [][]byte{nil, {0x80}, b, make([]byte, 5000)} {
			got, rest, err := wire.Takes(b, count)
			refused(t, "Takes", got, rest, err, api.ErrRange)
		}
	}
}

func TestTakesTooFew(t *testing.T) {
	for _, b := range [][]byte{nil, {1}, {1, 2}, {1, 2, 0x80}, {1, 2, 0x80, 0}, {0x80, 0, 1, 2}, {1, 0x80, 0, 2}} {
		got, rest, err := wire.Takes(b, 3)
		refused(t, "Takes", got, rest, err, api.ErrBox)
	}
	got, rest, err := wire.Takes(make([]byte, 4095), 4096)
	refused(t, "Takes", got, rest, err, api.ErrBox)
	got, rest, err = wire.Takes(nil, 0)
	refused(t, "Takes of none", got, rest, err, nil)
	_, rest, err = wire.Takes([]byte{0x80, 0}, 0)
	if err != nil || !bytes.Equal(rest, []byte{0x80, 0}) {
		t.Errorf("Takes of none: %x, %v", rest, err)
	}
}

// P2.1: rows

func TestPutRowForms(t *testing.T) {
	if b := wire.PutRow(nil, []byte("x")); !bytes.Equal(b, []byte{2, 'x'}) {
		t.Errorf("%x", b)
	}
	for _, n := range []int{0, 1, 63, 64, 480, 8191, 8192, 70000} {
		row := bytes.Repeat([]byte{0xa5}, n)
		want := slices.Concat([]byte("out"), form(n), row)
		if b := wire.PutRow([]byte("out"), row); !bytes.Equal(b, want) {
			t.Errorf("PutRow of %d bytes", n)
		}
		got, rest, err := wire.TakeRow(append(want[3:], 0x80, 9))
		if err != nil || !bytes.Equal(got, row) || !bytes.Equal(rest, []byte{0x80, 9}) {
			t.Errorf("TakeRow of %d bytes: %d bytes, %x, %v", n, len(got), rest, err)
		}
	}
	if b := wire.PutRow(nil, nil); !bytes.Equal(b, []byte{0}) {
		t.Errorf("PutRow of no byte: %x", b)
	}
}

func TestTakeRowRefuses(t *testing.T) {
	for _, n := range []int{-1, -2, -65, math.MinInt, math.MinInt + 1, 4, 5, 64, 1 << 31, 1 << 62, math.MaxInt} {
		row, rest, err := wire.TakeRow(append(form(n), "abc"...))
		refused(t, "TakeRow", row, rest, err, api.ErrBox)
	}
	for n := range 100 {
		b := wire.PutRow(nil, make([]byte, n))
		for cut := range len(b) {
			row, rest, err := wire.TakeRow(b[:cut])
			refused(t, "TakeRow of a part", row, rest, err, api.ErrBox)
		}
	}
}

// P2.2: what is put is taken, and nothing in another form

func TestWhatIsPutIsTaken(t *testing.T) {
	for _, n := range append(edges(), drawn(5000)...) {
		for _, behind := range []string{"", "\x00", "\x80", "\xff\xff tail"} {
			got, rest, err := wire.Take(append(wire.Put(nil, n), behind...))
			if got != n || string(rest) != behind || err != nil {
				t.Fatalf("%d: %d, %q, %v", n, got, rest, err)
			}
		}
		for b := wire.Put(nil, n); len(b) > 0; {
			b = b[:len(b)-1]
			_, rest, err := wire.Take(b)
			refused(t, "Take of a part", []int{}, rest, err, api.ErrBox)
		}
	}
}

func TestPutsAreTakenInOneRow(t *testing.T) {
	nums := edges()
	b := wire.PutRow(wire.Put(nil, nums...), []byte("row"))
	got, rest, err := wire.Takes(b, len(nums))
	if err != nil || !slices.Equal(got, nums) {
		t.Fatal(err)
	}
	row, rest, err := wire.TakeRow(rest)
	if string(row) != "row" || len(rest) != 0 || err != nil {
		t.Error(row, rest, err)
	}
}

// takenAlike holds Take's answer against the standard library's: the same number, or none if that has another form.
func takenAlike(t *testing.T, b []byte) {
	t.Helper()
	want, size := binary.Varint(b)
	good := size > 0 && bytes.Equal(form(int(want)), b[:size])
	n, rest, err := wire.Take(b)
	if !good {
		refused(t, "Take", []int{}, rest, err, api.ErrBox)
		if n != 0 {
			t.Fatalf("Take of %x: %d beside an error", b, n)
		}
		return
	}
	if n != int(want) || !bytes.Equal(rest, b[size:]) || err != nil {
		t.Fatalf("Take of %x: %d, %x, %v", b, n, rest, err)
	}
	if again := append(wire.Put(nil, n), rest...); !bytes.Equal(again, b) {
		t.Fatalf("%x is put again as %x", b, again)
	}
}

func TestNothingIsTakenInAnotherForm(t *testing.T) {
	for n := range 1 << 16 {
		takenAlike(t, []byte{byte(n >> 8)})
		takenAlike(t, []byte{byte(n >> 8), byte(n)})
	}
	bytesOf := []byte{0, 1, 2, 0x7f, 0x80, 0x81, 0xff}
	for length := range 12 {
		for n := range 7 * 7 * 7 * 7 {
			// What a number begins with matters less than how it ends.
			b := bytes.Repeat([]byte{bytesOf[4+n%3]}, length)
			for rest := n; rest > 0; rest /= 7 {
				b = append(b, bytesOf[rest%7])
			}
			takenAlike(t, b)
		}
	}
}

func TestRowsHaveOneForm(t *testing.T) {
	for n := range 1 << 16 {
		b := []byte{byte(n >> 8), byte(n), 0, 0x80, 1}
		row, rest, err := wire.TakeRow(b)
		if err != nil {
			refused(t, "TakeRow", row, rest, err, api.ErrBox)
			continue
		}
		if again := append(wire.PutRow(nil, row), rest...); !bytes.Equal(again, b) {
			t.Fatalf("%x is put again as %x", b, again)
		}
	}
}

// P2.4: what is handed in, and answers

// spared is bytes with spare room behind them, and all of that room.
func spared(s string) ([]byte, []byte) {
	room := append([]byte(s), bytes.Repeat([]byte{77}, 64)...)
	return room[:len(s)], room
}

// spoil writes over an answer, its spare room with it.
func spoil(b []byte) {
	b = b[:cap(b)]
	for i := range b {
		b[i] = 99
	}
}

func TestPutsLeaveOutAlone(t *testing.T) {
	for _, s := range []string{"", "out"} {
		out, room := spared(s)
		row, rowRoom := spared("row")
		nums := []int{1, 300, -1, 5, 6}
		was, rowWas := bytes.Clone(room), bytes.Clone(rowRoom)
		for _, put := range []func() []byte{
			func() []byte { return wire.Put(out) },
			func() []byte { return wire.Put(out, nums[:3]...) },
			func() []byte { return wire.PutRow(out, nil) },
			func() []byte { return wire.PutRow(out, row) },
			func() []byte { return wire.PutRow(out, out) },
		} {
			one, two := put(), put()
			want := bytes.Clone(two)
			spoil(one)
			if !bytes.Equal(two, want) {
				t.Error("two answers share memory")
			}
			if !bytes.Equal(room, was) || !bytes.Equal(rowRoom, rowWas) || !slices.Equal(nums, []int{1, 300, -1, 5, 6}) {
				t.Fatal("what was handed in is changed")
			}
		}
	}
}

func TestTakesAnswerNewMemory(t *testing.T) {
	b, room := spared("\x06abcdef")
	was := bytes.Clone(room)
	_, rest, _ := wire.Take(b)
	spoil(rest)
	none, rest, _ := wire.Takes(b, 0)
	if len(none) != 0 {
		t.Error(none)
	}
	spoil(rest)
	nums, rest, _ := wire.Takes(b, 2)
	spoil(rest)
	if !slices.Equal(nums, []int{3, -49}) {
		t.Error(nums)
	}
	row, rest, _ := wire.TakeRow(b)
	spoil(row)
	if string(rest) != "def" {
		t.Errorf("a row shares memory with what is behind it: %q", rest)
	}
	row, rest, _ = wire.TakeRow(b)
	spoil(rest)
	if string(row) != "abc" {
		t.Errorf("what is behind a row shares memory with it: %q", row)
	}
	if !bytes.Equal(room, was) {
		t.Error("an answer shares memory with what was handed in")
	}
	clear(room)
	if string(row) != "abc" {
		t.Error("an answer hangs on what was handed in")
	}
}
