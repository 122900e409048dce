package op_test

import (
	"bytes"
	"encoding/binary"
	"hash/crc32"
	"math"
	"strconv"
	"strings"
	"testing"

	"palimpsest/api"
	"palimpsest/disk"
	"palimpsest/op"
)

// The calls must have just these signatures: the layers above are built on them.
var (
	_ func(d *disk.Device, at int) (*op.Ops, error)                                 = op.Format
	_ func(d *disk.Device, at int) (*op.Ops, error)                                 = op.Open
	_ func(o *op.Ops, text string) (int, error)                                     = (*op.Ops).Define
	_ func(o *op.Ops, name string) (int, bool)                                      = (*op.Ops).Find
	_ func(o *op.Ops) int                                                           = (*op.Ops).Len
	_ func(o *op.Ops, id int) (string, bool)                                        = (*op.Ops).Text
	_ func(o *op.Ops, id int) (api.Info, bool)                                      = (*op.Ops).Info
	_ func(o *op.Ops, id int) int                                                   = (*op.Ops).Params
	_ func(o *op.Ops, id int, p api.Page, args ...int) (q api.Page, n int, e error) = (*op.Ops).Run
	_ func(o *op.Ops, id int, p api.Page, args ...int) (q api.Page, e error)        = (*op.Ops).Undo
	_ func(o *op.Ops, id int) int                                                   = (*op.Ops).Runs
)

// texts is operations of all kinds, no two of one name: 16 of them, just as many as there may be.
func texts() []string {
	return []string{
		"op add(i, v) { [i] += v; }",
		"op put(i, v) { need i >= 0; [i] = v; give v; }",
		"op get(i) { give [i]; }",
		"op none() { }",
		"op swap(i, k) { [i] <> [k]; }",
		"# a remark ahead\nop\tremark ( ) {}# and one behind",
		"op eight(a, b, c, d, e, f, g, h) { [a] += b; [c] -= d; [e] <> [f]; [g] += h; }",
		"op grow(i) { for k in 0..4 { [i + k] += k; } if i < 3 { [9] -= 1; } else { [8] += 2; } }",
		long("op long() {", 480),
		"op ADD(i, v) { [i] -= v; }",
		"op at_2(i) { need i != 0; let a = i * 2; [a] += i / i; }",
		"op wipe() { for i in 0..60 { [i] = 0; } }",
		"op take(i, w, v) { need [i] == w; [i] = v; }",
		"op steps() { for a in 0..64 { for b in 0..9 { } } }",
		"op a() { need false; [0] += 1; }",
		"op sixteen_letters_(sixteen_letters) { [sixteen_letters] += 16; }",
	}
}

// faulty is a text with the fault that it has.
type faulty struct {
	text string
	code api.Errno
	at   int
}

// faults is texts that are refused: by the tokens, the form, and what is checked.
func faults() []faulty {
	return []faulty{
		{"", api.ErrSyntax, 0}, {"op", api.ErrSyntax, 2}, {long("op x() {", 481), api.ErrForm, 0}, {strings.Repeat("&", 600), api.ErrForm, 0},
		{"op x() { & }", api.ErrToken, 9}, {"op x() { [y] = & }", api.ErrToken, 15}, {"\x00", api.ErrToken, 0}, {"op x() {}\xff", api.ErrToken, 9},
		{"op x() { [0] = 1 }", api.ErrSyntax, 17}, {"op x(op) {}", api.ErrSyntax, 5}, {"op add() {} op x() {}", api.ErrSyntax, 12}, {"op x() { [y] = 1 }", api.ErrSyntax, 17},
		{"op x() { [y] = 1; }", api.ErrName, 9 + 1}, {"op x(a, a) {}", api.ErrName, 0}, {"op x() { if 1 { } }", api.ErrType, 12}, {"op x() { for i in 0..65 { } }", api.ErrSteps, 9},
		{"op x() { for a in 0..64 { for b in 0..64 { } } }", api.ErrSteps, 0}, {"op x(a, b, c, d, e, f, g, h, i) {}", api.ErrFull, 0},
		{"op add() { [y] = 1; }", api.ErrName, 12}, {"op add() { & }", api.ErrToken, 11}, {"op add( {}", api.ErrSyntax, 8},
	}
}

// long is an operation's text of size bytes, whose block begins as given and is filled with blanks.
func long(begin string, size int) string {
	return begin + strings.Repeat(" ", size-len(begin)-1) + "}"
}

// boxed is the box of 512 bytes of some bytes, made by hand.
func boxed(in []byte) []byte {
	b := make([]byte, 512)
	binary.BigEndian.PutUint16(b[4:], uint16(len(in)))
	copy(b[6:], in)
	binary.BigEndian.PutUint32(b, crc32.ChecksumIEEE(b[4:]))
	return b
}

// rowed is a text's row, made by hand.
func rowed(text string) []byte {
	return append(binary.AppendVarint(nil, int64(len(text))), text...)
}

// sectorOf is the sector that an operation's text must have.
func sectorOf(text string) []byte {
	return boxed(rowed(text))
}

// told is an error as a value: an Errno's place is -1; of no error it is the value of noughts.
func told(err error) api.Fault {
	switch e := err.(type) {
	case nil:
		return api.Fault{}
	case api.Errno:
		return api.Fault{Code: e, At: -1}
	case *api.Fault:
		return *e
	}
	return api.Fault{Code: -1}
}

// errno is an error that has no place.
func errno(e api.Errno) api.Fault {
	return api.Fault{Code: e, At: -1}
}

// answers tells of an error that isn't the one that is wanted.
func answers(t *testing.T, what string, err error, want api.Errno) {
	t.Helper()
	wanted := api.Fault{}
	if want != 0 {
		wanted = errno(want)
	}
	if told(err) != wanted {
		t.Errorf("%s: %v, want %v", what, err, want)
	}
}

// refuses tells of operations that were made although they must be refused.
func refuses(t *testing.T, what string, o *op.Ops, err error, want api.Errno) {
	t.Helper()
	answers(t, what, err, want)
	if o != nil {
		t.Errorf("%s: operations beside an error", what)
	}
}

func device(t *testing.T, size int) *disk.Device {
	t.Helper()
	d, err := disk.New(size)
	if err != nil {
		t.Fatal(err)
	}
	return d
}

func formatted(t *testing.T, d *disk.Device, at int) *op.Ops {
	t.Helper()
	o, err := op.Format(d, at)
	if err != nil || o == nil {
		t.Fatalf("Format at %d: %v, %v", at, o, err)
	}
	return o
}

func opened(t *testing.T, d *disk.Device, at int) *op.Ops {
	t.Helper()
	o, err := op.Open(d, at)
	if err != nil || o == nil {
		t.Fatalf("Open at %d: %v, %v", at, o, err)
	}
	return o
}

// defined defines operations, which have the next numbers.
func defined(t *testing.T, o *op.Ops, texts ...string) {
	t.Helper()
	for _, text := range texts {
		want := o.Len() + 1
		if n, err := o.Define(text); n != want || err != nil {
			t.Fatalf("Define(%q): %d, %v, want %d", text, n, err, want)
		}
	}
}

// undefined tells of a text that isn't refused as it must be, or of a Define that makes steps although it is refused.
func undefined(t *testing.T, d *disk.Device, o *op.Ops, text string, want api.Fault) {
	t.Helper()
	steps, count := d.Steps(), o.Len()
	n, err := o.Define(text)
	if n != 0 || told(err) != want {
		t.Errorf("Define(%.60q): %d, %v (%v), want %v", text, n, err, told(err), want)
	}
	if d.Steps() != steps || o.Len() != count {
		t.Errorf("Define(%.60q): it is refused, and makes %d steps and %d operations", text, d.Steps()-steps, o.Len()-count)
	}
}

// written writes a sector and syncs it.
func written(t *testing.T, d *disk.Device, at int, b []byte) {
	t.Helper()
	if err := d.Write(at, b); err != nil {
		t.Fatal(err)
	}
	if err := d.Sync(); err != nil {
		t.Fatal(err)
	}
}

func arm(t *testing.T, d *disk.Device, n int) {
	t.Helper()
	if err := d.Arm(n); err != nil {
		t.Fatal(err)
	}
}

// powerless lets the power go.
func powerless(t *testing.T, d *disk.Device) {
	t.Helper()
	arm(t, d, 0)
	answers(t, "Sync", d.Sync(), api.ErrDown)
}

// holds tells of operations that aren't those of the texts, by every call that tells of them.
func holds(t *testing.T, o *op.Ops, texts ...string) {
	t.Helper()
	if o.Len() != len(texts) {
		t.Fatalf("Len: %d, want %d", o.Len(), len(texts))
	}
	for i, text := range texts {
		id := i + 1
		if got, ok := o.Text(id); got != text || !ok {
			t.Errorf("Text(%d): %q, %v, want %q", id, got, ok, text)
		}
		d := parsed(t, text)
		if got, ok := o.Find(d.Name); got != id || !ok {
			t.Errorf("Find(%q): %d, %v, want %d", d.Name, got, ok, id)
		}
		if got, ok := o.Info(id); got != checkedInfo(t, d) || !ok {
			t.Errorf("Info(%d): %v, %v", id, got, ok)
		}
		if got := o.Params(id); got != len(d.Params) {
			t.Errorf("Params(%d): %d, want %d", id, got, len(d.Params))
		}
	}
	for _, id := range []int{math.MinInt, -1, 0, len(texts) + 1, len(texts) + 2, 17, math.MaxInt} {
		if id < 1 || id > len(texts) {
			isNone(t, o, id)
		}
	}
	for _, name := range []string{"", "op", "nobody", "ad", "addd", "Add", "add ", " add", "op add(i, v) { [i] += v; }"} {
		if n, ok := o.Find(name); n != 0 || ok {
			t.Errorf("Find(%q): %d, %v", name, n, ok)
		}
	}
}

// isNone tells of a number that must have no operation, but has something of one.
func isNone(t *testing.T, o *op.Ops, id int) {
	t.Helper()
	if text, ok := o.Text(id); text != "" || ok {
		t.Errorf("Text(%d): %q, %v", id, text, ok)
	}
	if info, ok := o.Info(id); info != (api.Info{}) || ok {
		t.Errorf("Info(%d): %v, %v", id, info, ok)
	}
	for _, args := range [][]int{nil, {1}, {1, 2}} {
		if p, n, err := o.Run(id, counted(), args...); p != (api.Page{}) || n != 0 || told(err) != errno(api.ErrCode) {
			t.Errorf("Run(%d): %v, %d, %v", id, p, n, err)
		}
		if p, err := o.Undo(id, counted(), args...); p != (api.Page{}) || told(err) != errno(api.ErrCode) {
			t.Errorf("Undo(%d): %v, %v", id, p, err)
		}
	}
	if o.Params(id) != 0 || o.Runs(id) != 0 {
		t.Errorf("Params(%d), Runs(%d): %d, %d", id, id, o.Params(id), o.Runs(id))
	}
}

// has tells of a sector whose bytes aren't those that are wanted; nil is a sector of noughts.
func has(t *testing.T, d *disk.Device, at int, want []byte) {
	t.Helper()
	if want == nil {
		want = make([]byte, 512)
	}
	if got, err := d.Read(at); err != nil || !bytes.Equal(got, want) {
		t.Errorf("sector %d: %.40x, %v, want %.40x", at, got, err, want)
	}
}

// P13.1: the chapter's examples

func TestExamples(t *testing.T) {
	d := device(t, 16)
	o := formatted(t, d, 0)
	text := "op add(i, v) { [i] += v; }"
	defined(t, o, text)
	undefined(t, d, o, text, errno(api.ErrThere))
	o = opened(t, d, 0)
	if n, ok := o.Find("add"); n != 1 || !ok {
		t.Error(n, ok)
	}
}

// P13.1: where the sectors find room

func TestRoomForSectors(t *testing.T) {
	for _, size := range []int{1, 15, 16, 17, 40, api.MaxSectors} {
		d := device(t, size)
		for _, at := range []int{math.MinInt, -17, -16, -1, 0, 1, size - 17, size - 16, size - 15, size - 1, size, size + 1, math.MaxInt - 16, math.MaxInt - 15, math.MaxInt} {
			if at >= 0 && at+16 <= size && at < math.MaxInt-16 {
				written(t, d, at, make([]byte, 512))
				holds(t, opened(t, d, at))
				o := formatted(t, d, at)
				defined(t, o, texts()...)
				holds(t, opened(t, d, at), texts()...)
				continue
			}
			steps := d.Steps()
			o, err := op.Format(d, at)
			refuses(t, "Format", o, err, api.ErrRange)
			o, err = op.Open(d, at)
			refuses(t, "Open", o, err, api.ErrRange)
			if d.Steps() != steps {
				t.Error("what is refused makes steps")
			}
		}
	}
}

func TestNoDevice(t *testing.T) {
	for _, at := range []int{math.MinInt, -16, -1, 0, 1, math.MaxInt} {
		o, err := op.Format(nil, at)
		refuses(t, "Format", o, err, api.ErrRange)
		o, err = op.Open(nil, at)
		refuses(t, "Open", o, err, api.ErrRange)
	}
}

func TestRangeIsToldAheadOfPower(t *testing.T) {
	d := device(t, 16)
	powerless(t, d)
	for _, at := range []int{-1, 1} {
		o, err := op.Format(d, at)
		refuses(t, "Format", o, err, api.ErrRange)
		o, err = op.Open(d, at)
		refuses(t, "Open", o, err, api.ErrRange)
	}
	o, err := op.Format(d, 0)
	refuses(t, "Format", o, err, api.ErrDown)
	o, err = op.Open(d, 0)
	refuses(t, "Open", o, err, api.ErrDown)
}

// P13.1: what is written

func TestFormatWritesNoughts(t *testing.T) {
	const at = 3
	d := device(t, 22)
	full := bytes.Repeat([]byte{7}, 512)
	for i := range d.Size() {
		written(t, d, i, full)
	}
	steps, syncs := d.Steps(), d.Syncs()
	o := formatted(t, d, at)
	if d.Steps() != steps+17 || d.Syncs() != syncs+1 || len(d.Unsynced()) > 0 {
		t.Error(d.Steps()-steps, d.Syncs()-syncs, d.Unsynced())
	}
	holds(t, o)
	for i := range d.Size() {
		if i >= at && i < at+16 {
			has(t, d, i, nil)
		} else {
			has(t, d, i, full)
		}
	}
	holds(t, opened(t, d, at))
}

func TestDefineWritesItsSector(t *testing.T) {
	const at = 2
	d := device(t, 20)
	o := formatted(t, d, at)
	list := texts()
	for i, text := range list {
		steps, syncs := d.Steps(), d.Syncs()
		defined(t, o, text)
		if d.Steps() != steps+2 || d.Syncs() != syncs+1 || len(d.Unsynced()) > 0 {
			t.Error(d.Steps()-steps, d.Syncs()-syncs, d.Unsynced())
		}
		holds(t, o, list[:i+1]...)
		for k, text := range list {
			if k <= i {
				has(t, d, at+k, sectorOf(text))
			} else {
				has(t, d, at+k, nil)
			}
		}
		steps = d.Steps()
		holds(t, opened(t, d, at), list[:i+1]...)
		if d.Steps() != steps {
			t.Error("Open makes steps")
		}
	}
	for _, at := range []int{0, 1, 18, 19} {
		has(t, d, at, nil)
	}
}

func TestOpsBesideEachOther(t *testing.T) {
	d := device(t, 32)
	a, b := formatted(t, d, 0), formatted(t, d, 16)
	list := texts()
	for i := range list {
		defined(t, a, list[i])
		defined(t, b, list[15-i])
	}
	last := texts()
	for i := range last {
		last[i] = list[15-i]
	}
	for _, o := range []*op.Ops{a, opened(t, d, 0)} {
		holds(t, o, list...)
	}
	for _, o := range []*op.Ops{b, opened(t, d, 16)} {
		holds(t, o, last...)
	}
}

// P13.1: what Define refuses, and what it tells first

func TestFaultsOfTexts(t *testing.T) {
	d := device(t, 16)
	o := formatted(t, d, 0)
	check := func() {
		t.Helper()
		for _, f := range faults() {
			undefined(t, d, o, f.text, api.Fault{Code: f.code, At: f.at})
		}
	}
	check()
	list := texts()
	for _, text := range list[:3] {
		defined(t, o, text)
		check()
	}
	defined(t, o, list[3:]...)
	check()
	powerless(t, d)
	check()
	d.Crash()
	holds(t, o, list...)
	holds(t, opened(t, d, 0), list...)
}

func TestThereIsToldAheadOfFull(t *testing.T) {
	d := device(t, 16)
	o := formatted(t, d, 0)
	list := texts()
	there := func(power string) {
		t.Helper()
		for _, text := range append(list, "op add() { }", "op a(x) { give x; }", "op  put(i,v){}") {
			if o.Len() < len(list) && parsed(t, text).Name != "add" {
				continue
			}
			undefined(t, d, o, text, errno(api.ErrThere))
		}
		if o.Len() == len(list) {
			undefined(t, d, o, "op x() { }", errno(api.ErrFull))
			undefined(t, d, o, "op Add() { }", errno(api.ErrFull))
		}
	}
	defined(t, o, list[0])
	there("with power")
	defined(t, o, list[1:]...)
	there("with power")
	powerless(t, d)
	there("without power")
	d.Crash()
	o = opened(t, d, 0)
	there("behind an Open")
	powerless(t, d)
	there("behind an Open, without power")
}

func TestFullIsToldAheadOfPower(t *testing.T) {
	d := device(t, 16)
	o := formatted(t, d, 0)
	list := texts()
	defined(t, o, list[:15]...)
	powerless(t, d)
	undefined(t, d, o, list[0], errno(api.ErrThere))
	undefined(t, d, o, list[15], errno(api.ErrDown))
	d.Crash()
	defined(t, o, list[15])
	powerless(t, d)
	undefined(t, d, o, "op x() { }", errno(api.ErrFull))
}

func TestRefusedDefineChangesNothing(t *testing.T) {
	d := device(t, 16)
	o := formatted(t, d, 0)
	list := texts()
	for i, text := range list {
		for _, f := range faults() {
			undefined(t, d, o, f.text, api.Fault{Code: f.code, At: f.at})
		}
		powerless(t, d)
		undefined(t, d, o, text, errno(api.ErrDown))
		d.Crash()
		defined(t, o, text)
		undefined(t, d, o, text, errno(api.ErrThere))
		holds(t, o, list[:i+1]...)
	}
	holds(t, opened(t, d, 0), list...)
}

// P13.1: names are told from one another by each of their letters

func TestNamesThatAreAlmostTheSame(t *testing.T) {
	d := device(t, 16)
	o := formatted(t, d, 0)
	for i, name := range []string{"a", "A", "aa", "a_", "a0", "a1", "b", "ab", "ba", "sixteen_letters1", "sixteen_letters2", "opp"} {
		text := "op " + name + "() { give " + strconv.Itoa(i) + "; }"
		defined(t, o, text)
		if n, ok := o.Find(name); n != i+1 || !ok {
			t.Error(name, n, ok)
		}
		undefined(t, d, o, "op "+name+"(x) { }", errno(api.ErrThere))
	}
}

// P13.1: what Open refuses

func TestOpenRefusesOtherSectors(t *testing.T) {
	broken := bytes.Clone(sectorOf(texts()[0]))
	broken[300]++
	small := append(boxed(rowed("op x() {}"))[:256:256], make([]byte, 256)...)
	binary.BigEndian.PutUint32(small, crc32.ChecksumIEEE(small[4:256]))
	spread := boxed(rowed("op x() {}"))
	spread[511] = 1
	binary.BigEndian.PutUint32(spread, crc32.ChecksumIEEE(spread[4:]))
	last := make([]byte, 512)
	last[511] = 1
	first := make([]byte, 512)
	first[0] = 128
	bad := [][]byte{
		broken, small, spread, last, first, bytes.Repeat([]byte{1}, 512), boxed(nil), boxed(rowed("")), boxed([]byte("op x() {}")),
		boxed(append(rowed("op x() {}"), 0)), boxed(append(rowed("op x() {}"), rowed("op y() {}")...)), boxed(rowed("op x() {}")[:9]), boxed(append([]byte{0x92, 0}, "op x() {}"...)),
		boxed(binary.AppendVarint(nil, -1)), boxed(append([]byte{0}, sectorOf("op x() {}")[6:20]...)), boxed(rowed(long("op x() {", 481))), boxed(rowed(long("op x() {", 504))),
	}
	for _, f := range faults() {
		if len(f.text) <= 504 {
			bad = append(bad, sectorOf(f.text))
		}
	}
	list := texts()
	for ahead := range 16 {
		d := device(t, 18)
		defined(t, formatted(t, d, 1), list[:ahead]...)
		for i, b := range bad {
			written(t, d, 1+ahead, b)
			o, err := op.Open(d, 1)
			refuses(t, "Open of bad sector "+strconv.Itoa(i), o, err, api.ErrBox)
		}
		written(t, d, 1+ahead, sectorOf("op x() {}"))
		holds(t, opened(t, d, 1), append(texts()[:ahead], "op x() {}")...)
	}
}

func TestOpenRefusesNamesThatAreThere(t *testing.T) {
	list := texts()
	for ahead := 1; ahead < 16; ahead++ {
		d := device(t, 16)
		defined(t, formatted(t, d, 0), list[:ahead]...)
		for _, text := range []string{list[0], list[ahead-1], "op " + parsed(t, list[ahead/2]).Name + "(q) { give q; }"} {
			written(t, d, ahead, sectorOf(text))
			o, err := op.Open(d, 0)
			refuses(t, "Open", o, err, api.ErrBox)
		}
	}
}

func TestOpenReadsUpToNoughts(t *testing.T) {
	list := texts()
	for ahead := range 15 {
		for _, behind := range [][]byte{bytes.Repeat([]byte{9}, 512), sectorOf("op x() {"), sectorOf(list[0]), sectorOf("op x() {}")} {
			d := device(t, 16)
			defined(t, formatted(t, d, 0), list[:ahead]...)
			for at := ahead + 1; at < 16; at++ {
				written(t, d, at, behind)
			}
			o := opened(t, d, 0)
			holds(t, o, list[:ahead]...)
			defined(t, o, list[ahead])
			has(t, d, ahead, sectorOf(list[ahead]))
			has(t, d, ahead+1, behind)
		}
	}
}

// P13.1: what stands behind the next sector of noughts is read as soon as that isn't one any more

func TestOpenReadsOnBehindADefine(t *testing.T) {
	d := device(t, 16)
	list := texts()
	for at := 2; at < 5; at++ {
		written(t, d, at, sectorOf(list[at]))
	}
	o := opened(t, d, 0)
	holds(t, o)
	defined(t, o, list[0])
	holds(t, opened(t, d, 0), list[0])
	defined(t, o, list[1])
	holds(t, o, list[:2]...)
	holds(t, opened(t, d, 0), list[:5]...)
}

func TestSixteenAndNoMore(t *testing.T) {
	d := device(t, 20)
	for at := range 20 {
		written(t, d, at, bytes.Repeat([]byte{9}, 512))
	}
	o := formatted(t, d, 2)
	defined(t, o, texts()...)
	for range 2 {
		holds(t, o, texts()...)
		undefined(t, d, o, "op x() { }", errno(api.ErrFull))
		o = opened(t, d, 2)
	}
	has(t, d, 18, bytes.Repeat([]byte{9}, 512))
}

// P13.1: no operations at all

func TestNilOps(t *testing.T) {
	var o *op.Ops
	for range 2 {
		holds(t, o)
		for _, text := range []string{"op x() {}", "", "op", "op x() { & }", long("op x() {", 481)} {
			if n, err := o.Define(text); n != 0 || told(err) != errno(api.ErrDown) {
				t.Error(text, n, err)
			}
		}
	}
}

// P13.1: operations that one Ops defines aren't those of another that was opened ahead of that
func TestOpsThatWereOpenedEarlier(t *testing.T) {
	d := device(t, 16)
	list := texts()
	a := formatted(t, d, 0)
	defined(t, a, list[0])
	b := opened(t, d, 0)
	defined(t, a, list[1])
	holds(t, b, list[0])
	holds(t, a, list[:2]...)
	c := opened(t, d, 0)
	holds(t, c, list[:2]...)
	formatted(t, d, 0)
	holds(t, c, list[:2]...)
	holds(t, opened(t, d, 0))
}

// P13.1: odd texts and names end, and are refused
func TestOddTexts(t *testing.T) {
	d := device(t, 16)
	o := formatted(t, d, 0)
	draws := draw(131)
	for range 3000 {
		b := make([]byte, draws.next(40))
		for i := range b {
			b[i] = byte(draws.next(256))
			if draws.next(3) > 0 {
				b[i] = "op x(){}[];=+ "[draws.next(14)]
			}
		}
		n, err := o.Define(string(b))
		if f, ok := err.(*api.Fault); n != 0 || !ok || f.At < 0 || f.At > len(b) {
			t.Errorf("%q: %d, %v", b, n, err)
		}
		if n, ok := o.Find(string(b)); n != 0 || ok {
			t.Errorf("%q: %d", b, n)
		}
	}
	undefined(t, d, o, strings.Repeat("op x() {}", 1<<18), api.Fault{Code: api.ErrForm})
	holds(t, o)
	if d.Steps() != 17 {
		t.Error(d.Steps())
	}
}
