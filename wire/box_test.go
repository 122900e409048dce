package wire_test

import (
	"bytes"
	"encoding/binary"
	"hash/crc32"
	"math"
	"slices"
	"testing"

	"palimpsest/api"
	"palimpsest/wire"
)

// marks is n bytes, no two neighbours alike.
func marks(n int) []byte {
	b := make([]byte, n)
	for i := range b {
		b[i] = byte(i%251 + 1)
	}
	return b
}

// forged is bytes behind a check that is good for them, by the standard library.
func forged(behind []byte) []byte {
	return append(binary.BigEndian.AppendUint32(nil, crc32.ChecksumIEEE(behind)), behind...)
}

// laid is a box as the chapter tells its form.
func laid(size int, in []byte) []byte {
	behind := binary.BigEndian.AppendUint16(nil, uint16(len(in)))
	behind = append(behind, in...)
	return forged(append(behind, make([]byte, size-6-len(in))...))
}

// boxed is a box that must be answered.
func boxed(t *testing.T, size int, parts ...[]byte) []byte {
	t.Helper()
	box, err := wire.Box(size, parts...)
	if err != nil || len(box) != size {
		t.Fatalf("Box(%d): %d bytes, %v", size, len(box), err)
	}
	return box
}

// noBox tells of bytes that Unbox takes for a box.
func noBox(t *testing.T, what string, b []byte) {
	t.Helper()
	if in, err := wire.Unbox(b); err != api.ErrBox || len(in) != 0 {
		t.Errorf("%s: %d bytes, %v, want none, %v", what, len(in), err, api.ErrBox)
	}
}

// P2.1: the check

func TestCheckExamples(t *testing.T) {
	for _, c := range []struct {
		parts []string
		want  uint32
	}{
		{nil, 0}, {[]string{""}, 0}, {[]string{"", ""}, 0},
		{[]string{"123456789"}, 0xcbf43926}, {[]string{"1234", "", "56789", ""}, 0xcbf43926},
		{[]string{"\x00"}, 0xd202ef8d}, {[]string{"\xff\xff\xff\xff"}, 0xffffffff},
	} {
		var parts [][]byte
		for _, s := range c.parts {
			parts = append(parts, []byte(s))
		}
		if got := wire.Check(parts...); got != c.want {
			t.Errorf("Check of %q: %x, want %x", c.parts, got, c.want)
		}
	}
}

func TestCheckIsCRC32(t *testing.T) {
	for i := range 256 {
		b := []byte{byte(i)}
		if wire.Check(b) != crc32.ChecksumIEEE(b) {
			t.Errorf("Check of %x", b)
		}
	}
	b := marks(3000)
	for n := 0; n < len(b); n += 37 {
		if wire.Check(b[:n/3], nil, b[n/3:n]) != crc32.ChecksumIEEE(b[:n]) {
			t.Errorf("Check of %d bytes", n)
		}
	}
}

// P2.1: boxes

func TestBoxExamples(t *testing.T) {
	box := boxed(t, 10, []byte("hi"))
	if !bytes.Equal(box[4:], []byte{0, 2, 'h', 'i', 0, 0}) || !bytes.Equal(box, laid(10, []byte("hi"))) {
		t.Errorf("%x", box)
	}
	box, err := wire.Box(7, []byte("hi"))
	refused(t, "Box(7, hi)", box, []byte{}, err, api.ErrForm)
}

func TestBoxForms(t *testing.T) {
	for _, size := range []int{6, 7, 8, 10, 512, 4096, 65535, 65536} {
		for _, n := range []int{0, 1, 2, 255, 256, 506, size - 7, size - 6} {
			if n < 0 || n > size-6 {
				continue
			}
			in := marks(n)
			want := laid(size, in)
			if !bytes.Equal(boxed(t, size, in), want) {
				t.Errorf("Box(%d) of %d bytes", size, n)
			}
			if !bytes.Equal(boxed(t, size, nil, in[:n/3], nil, in[n/3:n/2], in[n/2:]), want) {
				t.Errorf("Box(%d) of %d bytes in parts", size, n)
			}
			got, err := wire.Unbox(want)
			if err != nil || !bytes.Equal(got, in) {
				t.Errorf("Unbox(%d) of %d bytes: %d bytes, %v", size, n, len(got), err)
			}
		}
	}
	if !bytes.Equal(boxed(t, 6), laid(6, nil)) {
		t.Error("Box(6) without parts")
	}
}

func TestBoxRefuses(t *testing.T) {
	for _, size := range []int{math.MinInt, -1, 0, 1, 5, 65537, math.MaxInt} {
		for _, parts := range [][][]byte{nil, {marks(1)}, {marks(70000)}} {
			box, err := wire.Box(size, parts...)
			refused(t, "Box", box, []byte{}, err, api.ErrRange)
		}
	}
	for _, size := range []int{6, 7, 512, 65535, 65536} {
		room := size - 6
		for _, parts := range [][][]byte{
			{marks(room + 1)}, {marks(room), marks(1)}, {marks(1), marks(room)}, {nil, marks(room), nil, marks(1)},
			{marks(65536)}, {marks(40000), marks(40000)}, {marks(65530), marks(6)},
		} {
			box, err := wire.Box(size, parts...)
			refused(t, "Box", box, []byte{}, err, api.ErrForm)
		}
	}
}

// P2.2: a box has one form

func TestUnboxRefusesOtherForms(t *testing.T) {
	noBox(t, "nil", nil)
	for n := range 6 {
		noBox(t, "bytes that are too few", make([]byte, n))
		if n >= 4 {
			noBox(t, "bytes that are too few, with a good check", forged(marks(n-4)))
		}
	}
	for _, size := range []int{65537, 65538, 100000} {
		noBox(t, "too many bytes", laid(size, []byte("hi")))
	}
	for _, size := range []int{6, 7, 16, 65536} {
		behind := make([]byte, size-4)
		for _, n := range []int{size - 5, 65535} {
			binary.BigEndian.PutUint16(behind, uint16(n))
			noBox(t, "more in it than its room", forged(behind))
		}
	}
	noBox(t, "more in it than its room", forged([]byte{1, 4, 'a', 'b', 'c', 'd', 0, 0, 0, 0}))
	for at := 6; at < 10; at++ {
		behind := []byte{0, 4, 'a', 'b', 'c', 'd', 0, 0, 0, 0}
		behind[at] = 1
		noBox(t, "a byte behind what is in it", forged(behind))
	}
	in, err := wire.Unbox(forged([]byte{0, 5, 'a', 'b', 'c', 'd', 0, 0, 0, 0}))
	if err != nil || string(in) != "abcd\x00" {
		t.Errorf("a byte 0 in it: %q, %v", in, err)
	}
}

func TestUnboxTakesNoPart(t *testing.T) {
	box := boxed(t, 40, []byte("inside"))
	for n := range 40 {
		noBox(t, "a box's beginning", box[:n])
	}
	noBox(t, "a box and a byte", append(slices.Clone(box), 0))
	for n := 1; n < 40; n++ {
		noBox(t, "a box's end", box[n:])
	}
}

// P2.3: changed boxes

func TestOneByteChangedIsNoBox(t *testing.T) {
	for _, in := range []string{"", "x", "0123456789"} {
		for size := len(in) + 6; size < len(in)+12; size++ {
			box := boxed(t, size, []byte(in))
			for at := range box {
				for change := 1; change < 256; change++ {
					x := bytes.Clone(box)
					x[at] ^= byte(change)
					noBox(t, "a byte changed", x)
				}
			}
		}
	}
}

func TestOneByteChangedInASector(t *testing.T) {
	box := boxed(t, 512, marks(300))
	for at := range box {
		for _, change := range []byte{1, 2, 0x40, 0x80, 0xff} {
			x := bytes.Clone(box)
			x[at] ^= change
			noBox(t, "a byte changed", x)
		}
	}
	greatest := boxed(t, 65536, marks(65530))
	for at := 0; at < len(greatest); at += 655 {
		greatest[at] ^= 0x10
		noBox(t, "a byte changed", greatest)
		greatest[at] ^= 0x10
	}
}

func TestNoughtsAreNoBox(t *testing.T) {
	for size := range 2000 {
		noBox(t, "bytes 0", make([]byte, size))
	}
	for _, size := range []int{4096, 65535, 65536, 65537} {
		noBox(t, "bytes 0", make([]byte, size))
	}
}

// P2.4: what is handed in, and answers

func TestBoxLeavesPartsAlone(t *testing.T) {
	left, leftRoom := spared("left")
	right, rightRoom := spared("right")
	parts := [][]byte{left, right}
	was := bytes.Clone(leftRoom)
	one, two := boxed(t, 16, parts...), boxed(t, 16, parts...)
	spoil(one)
	if !bytes.Equal(two, laid(16, []byte("leftright"))) {
		t.Error("two answers share memory")
	}
	wire.Check(parts...)
	if !bytes.Equal(leftRoom, was) || string(rightRoom[:6]) != "rightM" || string(parts[0]) != "left" || len(parts) != 2 {
		t.Error("what was handed in is changed")
	}
	clear(leftRoom)
	if !bytes.Equal(two, laid(16, []byte("leftright"))) {
		t.Error("an answer hangs on what was handed in")
	}
}

func TestUnboxAnswersNewMemory(t *testing.T) {
	box := laid(32, []byte("inside"))
	was := bytes.Clone(box)
	one, _ := wire.Unbox(box)
	two, _ := wire.Unbox(box)
	spoil(one)
	if !bytes.Equal(box, was) || string(two) != "inside" {
		t.Error("an answer shares memory")
	}
	clear(box)
	if string(two) != "inside" {
		t.Error("an answer hangs on what was handed in")
	}
}
