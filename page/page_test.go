package page_test

import (
	"bytes"
	"encoding/binary"
	"hash/crc32"
	"math"
	"slices"
	"testing"

	"palimpsest/api"
	"palimpsest/page"
)

// The calls must have just these signatures: the layers above are built on them.
var (
	_ func(p api.Page) []byte                                 = page.Encode
	_ func(b []byte) (api.Page, error)                        = page.Decode
	_ func(p api.Page, images ...api.Image) (api.Page, error) = page.Set
	_ func(a, b api.Page) []api.Image                         = page.Diff
	_ func(p api.Page, cell int) (int, bool)                  = page.Get
)

// edges is numbers of one byte and of many, on both sides of 0, up to the least and the greatest.
func edges() []int {
	nums := []int{0, 1, -1, 63, 64, -64, -65, 255, 256, 300, 0x0102030405060708, math.MaxInt, math.MinInt, math.MaxInt - 1, math.MinInt + 1}
	for bit := range 63 {
		nums = append(nums, 1<<bit, -1<<bit)
	}
	return nums
}

// outside is numbers that no cell has.
func outside() []int {
	return []int{-1, -2, 60, 61, 64, 255, 256, 1 << 32, -1 << 32, math.MaxInt, math.MinInt}
}

// paged is a page of an Lsn and its first cells.
func paged(lsn int, cells ...int) api.Page {
	p := api.Page{Lsn: lsn}
	copy(p.Cells[:], cells)
	return p
}

// full is a page with another number of many bytes in each cell, below 0 in each second one.
func full(lsn int) api.Page {
	p := api.Page{Lsn: lsn}
	for i := range p.Cells {
		p.Cells[i] = 0x1122334455667788 * (i + 1) * (1 - i%2*2)
	}
	return p
}

// draw is numbers in a row that looks like chance.
type draw uint64

// next is a number below n.
func (d *draw) next(n int) int {
	*d = *d*6364136223846793005 + 1442695040888963407
	return int(*d>>33) % n
}

// number is one near 0 or near where its bits become one more.
func (d *draw) number() int {
	return (1<<d.next(65) + d.next(5) - 2) * (1 - 2*d.next(2))
}

// page is a page with numbers in so many cells at most.
func (d *draw) page(cells int) api.Page {
	p := api.Page{Lsn: d.number()}
	for range cells {
		p.Cells[d.next(api.Cells)] = d.number()
	}
	return p
}

// cellBytes is the cells' bytes, laid by the standard library.
func cellBytes(p api.Page) []byte {
	var b []byte
	for _, n := range p.Cells {
		b = binary.BigEndian.AppendUint64(b, uint64(n))
	}
	return b
}

// inside is what is boxed of a page: the standard library's signed numbers have the form of Put's.
func inside(p api.Page) []byte {
	return append(binary.AppendVarint(nil, int64(p.Lsn)), cellBytes(p)...)
}

// boxed is a box of size bytes, laid by the standard library.
func boxed(size int, in []byte) []byte {
	behind := binary.BigEndian.AppendUint16(nil, uint16(len(in)))
	behind = append(append(behind, in...), make([]byte, size-6-len(in))...)
	return forged(behind)
}

// forged is bytes behind a check that is good for them.
func forged(behind []byte) []byte {
	return append(binary.BigEndian.AppendUint32(nil, crc32.ChecksumIEEE(behind)), behind...)
}

// is holds a page against the one that is wanted.
func is(t *testing.T, what string, p, want api.Page) {
	t.Helper()
	if p != want {
		t.Errorf("%s: %v, want %v", what, p, want)
	}
}

// decodes holds the page of a sector against the one that is wanted.
func decodes(t *testing.T, b []byte, want api.Page) {
	t.Helper()
	p, err := page.Decode(b)
	if err != nil || p != want {
		t.Errorf("Decode: %v, %v, want %v", p, err, want)
	}
}

// noPage tells of bytes that Decode takes for a page.
func noPage(t *testing.T, what string, b []byte) {
	t.Helper()
	if p, err := page.Decode(b); err != api.ErrBox || p != (api.Page{}) {
		t.Errorf("%s: %v, %v, want noughts, %v", what, p, err, api.ErrBox)
	}
}

// sets is the page that a Set must answer.
func sets(t *testing.T, p api.Page, images ...api.Image) api.Page {
	t.Helper()
	q, err := page.Set(p, images...)
	if err != nil {
		t.Fatalf("Set of %v: %v", images, err)
	}
	return q
}

// P5.1, P5.2: sectors

func TestEncodeForm(t *testing.T) {
	pages := []api.Page{{}, full(0), full(1), full(math.MaxInt), full(math.MinInt), paged(300, -1, math.MaxInt)}
	for _, n := range edges() {
		last := api.Page{Lsn: n}
		last.Cells[59] = n
		pages = append(pages, paged(n), paged(0, n), paged(-1, n, n), paged(1, 0, n), last)
	}
	for _, p := range pages {
		b := page.Encode(p)
		if len(b) != 512 || !bytes.Equal(b, boxed(512, inside(p))) {
			t.Errorf("Encode of %v: %d bytes, %x", p, len(b), b)
		}
		decodes(t, b, p)
	}
}

func TestEncodeExample(t *testing.T) {
	b := page.Encode(paged(64, 1, -2, 0x0102030405060708))
	want := []byte{1, 226, 0x80, 1, 0, 0, 0, 0, 0, 0, 0, 1, 255, 255, 255, 255, 255, 255, 255, 254, 1, 2, 3, 4, 5, 6, 7, 8, 0}
	if len(b) != 512 || !bytes.Equal(b[4:4+len(want)], want) {
		t.Errorf("%x", b)
	}
}

func TestPageOfNoughts(t *testing.T) {
	decodes(t, make([]byte, 512), api.Page{})
	box := page.Encode(api.Page{})
	if !bytes.Equal(box, boxed(512, make([]byte, 481))) || bytes.Equal(box, make([]byte, 512)) {
		t.Errorf("the box of noughts: %x", box)
	}
	decodes(t, box, api.Page{})
}

func TestEachCellHasItsPlace(t *testing.T) {
	for cell := range api.Cells {
		for _, n := range []int{1, -1, 0x0102030405060708, math.MaxInt, math.MinInt} {
			p := api.Page{Lsn: 5}
			p.Cells[cell] = n
			b := page.Encode(p)
			if !bytes.Equal(b, boxed(512, inside(p))) {
				t.Errorf("cell %d = %d: %x", cell, n, b)
			}
			decodes(t, b, p)
		}
	}
}

func TestPagesThatAreDrawn(t *testing.T) {
	d := draw(1)
	for range 2000 {
		p := d.page(d.next(80))
		b := page.Encode(p)
		if !bytes.Equal(b, boxed(512, inside(p))) {
			t.Fatalf("Encode of %v", p)
		}
		decodes(t, b, p)
	}
}

// P5.1, P5.2: sectors that are no page's

func TestWrongSizes(t *testing.T) {
	noPage(t, "nil", nil)
	for _, n := range []int{0, 1, 5, 6, 7, 480, 490, 510, 511, 513, 514, 1024, 65536, 65537} {
		noPage(t, "noughts", make([]byte, n))
	}
	for _, p := range []api.Page{{}, full(1), full(math.MinInt)} {
		for _, size := range []int{496, 497, 511, 513, 518, 1024, 65536} {
			noPage(t, "a page in a box of another size", boxed(size, inside(p)))
		}
		b := page.Encode(p)
		for _, n := range []int{0, 1, 256, 495, 511} {
			noPage(t, "the beginning of a sector", b[:n])
		}
		noPage(t, "a sector and a byte", append(slices.Clone(b), 0))
		noPage(t, "a byte and a sector", append([]byte{0}, b...))
		noPage(t, "two sectors", append(slices.Clone(b), b...))
		noPage(t, "a page without a box", inside(p))
	}
}

func TestASectorWithoutABox(t *testing.T) {
	for _, p := range []api.Page{paged(0, 1), full(1), full(math.MinInt)} {
		b := make([]byte, 512)
		copy(b, inside(p))
		noPage(t, "a page in a sector without a box", b)
		clear(b)
		copy(b[6:], inside(p))
		noPage(t, "a page without a head", b)
	}
}

func TestOneByteChanged(t *testing.T) {
	for _, p := range []api.Page{{}, paged(300, -1, math.MaxInt), full(-7)} {
		b := page.Encode(p)
		for at := range b {
			for _, change := range []byte{1, 2, 0x40, 0x80, 0xff} {
				x := bytes.Clone(b)
				x[at] ^= change
				noPage(t, "a byte changed", x)
			}
		}
	}
	for at := range 512 {
		for change := 1; change < 256; change += 14 {
			x := make([]byte, 512)
			x[at] = byte(change)
			noPage(t, "noughts but for a byte", x)
		}
	}
	noPage(t, "bytes ff", bytes.Repeat([]byte{0xff}, 512))
}

func TestBoxesOfNoPage(t *testing.T) {
	for _, p := range []api.Page{{}, paged(300, -1), full(0), full(-300), full(math.MinInt)} {
		in := inside(p)
		for cut := range in {
			noPage(t, "too little in the box", boxed(512, in[:cut]))
		}
		for n := 1; len(in)+n <= 506; n++ {
			noPage(t, "too much in the box", boxed(512, append(slices.Clone(in), make([]byte, n)...)))
		}
		noPage(t, "a byte behind the cells", boxed(512, append(slices.Clone(in), 1)))
		noPage(t, "a byte behind the box's content", forged(append(append([]byte{1, byte(len(in))}, in...), bytes.Repeat([]byte{1}, 506-len(in))...)))
		noPage(t, "cells alone", boxed(512, cellBytes(p)))
	}
}

func TestNumbersThatPutDoesNotWrite(t *testing.T) {
	cells := cellBytes(full(0))
	longest := []byte{0xff, 0xff, 0xff, 0xff, 0xff, 0xff, 0xff, 0xff, 0xff, 1}
	decodes(t, boxed(512, append(slices.Clone(longest), cells...)), full(math.MinInt))
	for _, lsn := range [][]byte{
		{0x80, 0}, {0x81, 0}, {0xff, 0}, {0x80, 0x80, 0}, {0x80, 0x80, 1, 0},
		append(slices.Clone(longest[:9]), 0), append(slices.Clone(longest[:9]), 2), append(slices.Clone(longest[:9]), 3),
		append(slices.Clone(longest[:9]), 0x7f), append(slices.Clone(longest[:9]), 0x81, 0), append(slices.Clone(longest[:9]), 0x81, 1),
		bytes.Repeat([]byte{0x80}, 10), bytes.Repeat([]byte{0xff}, 11), bytes.Repeat([]byte{0xff}, 26),
	} {
		noPage(t, "an Lsn of another form", boxed(512, append(slices.Clone(lsn), cells...)))
	}
	noPage(t, "an Lsn without an end", boxed(512, bytes.Repeat([]byte{0x80}, 481)))
	noPage(t, "an Lsn without an end", boxed(512, bytes.Repeat([]byte{0xff}, 490)))
}

// What is taken is written again the same, and what isn't has no page: no content that is drawn has another form.
func TestTakenIsWrittenAgain(t *testing.T) {
	d := draw(2)
	taken := 0
	for range 20000 {
		in := inside(d.page(d.next(4)))
		for range d.next(3) {
			in[d.next(min(len(in), 14))] = []byte{0, 1, 2, 0x7f, 0x80, 0x81, 0xff}[d.next(7)]
		}
		if d.next(3) == 0 {
			in = append(in, make([]byte, d.next(3))...)[d.next(3):]
		}
		b := boxed(512, in)
		p, err := page.Decode(b)
		if err != nil {
			noPage(t, "drawn", b)
			continue
		}
		taken++
		if !bytes.Equal(page.Encode(p), b) {
			t.Errorf("%x is taken for %v", in, p)
		}
	}
	if taken < 1000 || taken > 19000 {
		t.Errorf("%d of 20000 taken", taken)
	}
}

// P5.1: cells

func TestGet(t *testing.T) {
	p := full(9)
	for cell, want := range p.Cells {
		if n, ok := page.Get(p, cell); n != want || !ok {
			t.Errorf("Get of %d: %d, %v, want %d", cell, n, ok, want)
		}
	}
	for cell := range api.Cells {
		if n, ok := page.Get(api.Page{Lsn: 3}, cell); n != 0 || !ok {
			t.Errorf("Get of %d from noughts: %d, %v", cell, n, ok)
		}
	}
	for _, cell := range outside() {
		if n, ok := page.Get(p, cell); n != 0 || ok {
			t.Errorf("Get of %d: %d, %v", cell, n, ok)
		}
	}
}

func TestSetOne(t *testing.T) {
	for _, p := range []api.Page{{}, full(-4)} {
		for cell := range api.Cells {
			for _, n := range []int{0, 1, -1, math.MaxInt, math.MinInt} {
				want := p
				want.Cells[cell] = n
				is(t, "Set", sets(t, p, api.Image{Cell: cell, Value: n}), want)
			}
		}
		is(t, "Set of nothing", sets(t, p), p)
		is(t, "Set of an empty list", sets(t, p, []api.Image{}...), p)
	}
}

func TestSetOneAfterTheOther(t *testing.T) {
	p := paged(8, 1, 2, 3)
	is(t, "two of one cell", sets(t, p, api.Image{Cell: 1, Value: 5}, api.Image{Cell: 1, Value: 6}), paged(8, 1, 6, 3))
	is(t, "the first of three again", sets(t, p, api.Image{Cell: 2, Value: 5}, api.Image{Cell: 0, Value: 4}, api.Image{Cell: 2, Value: 3}), paged(8, 4, 2, 3))
	var many []api.Image
	for round := range 50 {
		for cell := range api.Cells {
			many = append(many, api.Image{Cell: cell, Value: round*100 + cell})
		}
	}
	want := api.Page{Lsn: 8}
	for cell := range want.Cells {
		want.Cells[cell] = 4900 + cell
	}
	is(t, "many", sets(t, p, many...), want)
}

func TestSetRefuses(t *testing.T) {
	p := full(2)
	good := api.Image{Cell: 0, Value: 7}
	for _, cell := range outside() {
		wrong := api.Image{Cell: cell, Value: 1}
		for _, images := range [][]api.Image{
			{wrong}, {wrong, good}, {good, wrong}, {good, wrong, good}, {good, good, good, wrong}, {wrong, wrong},
		} {
			q, err := page.Set(p, images...)
			if err != api.ErrRange || q != (api.Page{}) {
				t.Errorf("Set of %v: %v, %v, want noughts, %v", images, q, err, api.ErrRange)
			}
		}
	}
	is(t, "the page behind refusals", p, full(2))
}

func TestDiff(t *testing.T) {
	for _, c := range []struct {
		a, b api.Page
		want []api.Image
	}{
		{api.Page{}, api.Page{}, nil},
		{full(1), full(1), nil},
		{full(1), full(2), nil},
		{paged(0, 0, 0, 0, 7), api.Page{}, []api.Image{{Cell: 3, Value: 7}}},
		{api.Page{}, paged(0, 0, 0, 0, 7), []api.Image{{Cell: 3}}},
		{paged(5, 1, 2, 3), paged(6, 1, 5, -3), []api.Image{{Cell: 1, Value: 2}, {Cell: 2, Value: 3}}},
		{paged(0, math.MinInt), paged(0, math.MaxInt), []api.Image{{Cell: 0, Value: math.MinInt}}},
		{paged(0, 1), paged(0, 1+1<<32), []api.Image{{Cell: 0, Value: 1}}},
	} {
		if got := page.Diff(c.a, c.b); !slices.Equal(got, c.want) {
			t.Errorf("Diff of %v and %v: %v, want %v", c.a, c.b, got, c.want)
		}
	}
	var all []api.Image
	for cell, n := range full(1).Cells {
		all = append(all, api.Image{Cell: cell, Value: n})
	}
	if got := page.Diff(full(1), api.Page{}); !slices.Equal(got, all) {
		t.Errorf("Diff of a full page: %v", got)
	}
	last := api.Page{}
	last.Cells[59] = -1
	if got := page.Diff(last, api.Page{}); !slices.Equal(got, []api.Image{{Cell: 59, Value: -1}}) {
		t.Errorf("Diff of the last cell: %v", got)
	}
}

// P5.3: Set with Diff

func TestSetWithDiff(t *testing.T) {
	d := draw(3)
	for range 5000 {
		a, b := d.page(d.next(100)), d.page(d.next(100))
		if d.next(2) == 0 {
			b.Cells = a.Cells
			b.Cells[d.next(api.Cells)] = d.number()
		}
		diff := page.Diff(a, b)
		is(t, "Set with Diff", sets(t, b, diff...), api.Page{Lsn: b.Lsn, Cells: a.Cells})
		for i, image := range diff {
			if i > 0 && diff[i-1].Cell >= image.Cell || image.Value != a.Cells[image.Cell] || image.Value == b.Cells[image.Cell] {
				t.Fatalf("Diff of %v and %v: %v", a, b, diff)
			}
		}
		if again := page.Diff(a, sets(t, b, diff...)); len(again) != 0 {
			t.Errorf("still differs: %v", again)
		}
	}
}

// What is handed in, and answers

func TestWhatIsHandedInStays(t *testing.T) {
	p := full(11)
	b := page.Encode(p)
	was := bytes.Clone(b)
	q, _ := page.Decode(b)
	if !bytes.Equal(b, was) {
		t.Error("Decode changed a sector")
	}
	clear(b)
	is(t, "a page whose sector is written over", q, p)

	room := []api.Image{{Cell: 1, Value: 2}, {Cell: 1, Value: 3}, {Cell: 9, Value: 9}}
	kept := slices.Clone(room)
	q = sets(t, p, room[:2]...)
	if _, err := page.Set(p, append(room[:2:2], api.Image{Cell: 60})...); err == nil || !slices.Equal(room, kept) {
		t.Errorf("%v, images %v, want %v", err, room, kept)
	}
	clear(room)
	if q.Cells[1] != 3 {
		t.Error("a page hangs on the images")
	}
	is(t, "the page that was handed in", p, full(11))
}

func TestAnswersAreNewMemory(t *testing.T) {
	p := full(12)
	one, two := page.Encode(p), page.Encode(p)
	clear(one[:cap(one)])
	if !bytes.Equal(two, boxed(512, inside(p))) || !bytes.Equal(page.Encode(p), two) {
		t.Error("sectors share memory")
	}
	left, right := page.Diff(p, api.Page{}), page.Diff(p, api.Page{})
	clear(left[:cap(left)])
	if right[0].Value != p.Cells[0] || right[59].Value != p.Cells[59] || !slices.Equal(page.Diff(p, api.Page{}), right) {
		t.Error("differences share memory")
	}
	is(t, "the page that was handed in", p, full(12))
}
