package op_test

import (
	"bytes"
	"encoding/binary"
	"slices"
	"testing"

	"palimpsest/api"
	"palimpsest/check"
	"palimpsest/disk"
	"palimpsest/op"
	"palimpsest/parse"
)

// P13.1: calls in any order, held against a second reading of the chapter

// shelf is what an Ops holds, by the second reading.
type shelf struct {
	d     *disk.Device
	at    int
	texts []string
	defs  []api.Def
	runs  []int
}

// lacks tells whether a device hasn't the 16 sectors.
func lacks(d *disk.Device, at int) bool {
	for n := range 16 {
		if at+n < 0 || at+n >= d.Size() {
			return true
		}
	}
	return false
}

func shelfFormatted(d *disk.Device, at int) (*shelf, api.Fault) {
	if lacks(d, at) {
		return nil, errno(api.ErrRange)
	}
	for n := range 16 {
		if d.Write(at+n, make([]byte, 512)) != nil {
			return nil, errno(api.ErrDown)
		}
	}
	if d.Sync() != nil {
		return nil, errno(api.ErrDown)
	}
	return &shelf{d: d, at: at}, api.Fault{}
}

func shelfOpened(d *disk.Device, at int) (*shelf, api.Fault) {
	if lacks(d, at) {
		return nil, errno(api.ErrRange)
	}
	if d.Down() {
		return nil, errno(api.ErrDown)
	}
	s := &shelf{d: d, at: at}
	for n := range 16 {
		b, err := d.Read(at + n)
		if err != nil || bytes.Count(b, []byte{0}) == 512 {
			break
		}
		text, ok := textOf(b)
		x, f := read(text)
		if !ok || f != (api.Fault{}) || s.find(x.Name) > 0 {
			return nil, errno(api.ErrBox)
		}
		s.put(text, x)
	}
	return s, api.Fault{}
}

// textOf is the text whose sector some bytes are: it is what is left of them without what is laid around every text.
func textOf(b []byte) (string, bool) {
	size, head := binary.Varint(b[6:])
	if head < 1 || size < 0 || int(size) > 506-head {
		return "", false
	}
	text := string(b[6+head : 6+head+int(size)])
	return text, bytes.Equal(sectorOf(text), b)
}

// read is the definition of a text, or the text's fault.
func read(text string) (api.Def, api.Fault) {
	d, err := parse.Parse(text)
	if err == nil {
		_, err = check.Check(d)
	}
	return d, told(err)
}

// put lets an operation be the next one.
func (s *shelf) put(text string, d api.Def) {
	s.texts, s.defs, s.runs = append(s.texts, text), append(s.defs, d), append(s.runs, 0)
}

func (s *shelf) find(name string) int {
	for i, d := range s.defs {
		if d.Name == name {
			return i + 1
		}
	}
	return 0
}

func (s *shelf) define(text string) (int, api.Fault) {
	if s == nil {
		return 0, errno(api.ErrDown)
	}
	d, f := read(text)
	if f != (api.Fault{}) {
		return 0, f
	}
	if s.find(d.Name) > 0 {
		return 0, errno(api.ErrThere)
	}
	if len(s.texts) == 16 {
		return 0, errno(api.ErrFull)
	}
	if s.d.Write(s.at+len(s.texts), sectorOf(text)) != nil || s.d.Sync() != nil {
		return 0, errno(api.ErrDown)
	}
	s.put(text, d)
	return len(s.texts), api.Fault{}
}

// def is the definition of an operation, and whether there is one.
func (s *shelf) def(id int) (api.Def, bool) {
	if s == nil || id < 1 || id > len(s.defs) {
		return api.Def{}, false
	}
	return s.defs[id-1], true
}

func (s *shelf) run(id int, of func(api.Def, api.Page, ...int) outcome, p api.Page, args []int) outcome {
	d, ok := s.def(id)
	if !ok {
		return outcome{err: errno(api.ErrCode)}
	}
	out := of(d, p, args...)
	if out.err != errno(api.ErrCode) {
		s.runs[id-1]++
	}
	return out
}

// both is the program and the second reading, each with a device of its own.
type both struct {
	t     *testing.T
	draws *maker
	d     *disk.Device
	o     *op.Ops
	other *disk.Device
	s     *shelf
	seen  map[string]int
}

// same tells of answers that aren't the same.
func (b *both) same(what string, got, want any) {
	b.t.Helper()
	if got != want {
		b.t.Fatalf("%s: %v, want %v", what, got, want)
	}
}

// note counts what was answered, so that the test can tell that all of it came to pass.
func (b *both) note(what string, f api.Fault) {
	if f == (api.Fault{}) {
		b.seen[what]++
	} else {
		b.seen[what+" "+f.Code.Error()]++
	}
}

// sameDevices holds all that a device tells against the other one.
func (b *both) sameDevices() {
	b.t.Helper()
	b.same("Steps", b.d.Steps(), b.other.Steps())
	b.same("Syncs", b.d.Syncs(), b.other.Syncs())
	b.same("Down", b.d.Down(), b.other.Down())
	if !slices.Equal(b.d.Unsynced(), b.other.Unsynced()) {
		b.t.Fatal(b.d.Unsynced(), b.other.Unsynced())
	}
	if b.d.Down() {
		return
	}
	for at := range b.d.Size() {
		x, _ := b.d.Read(at)
		y, _ := b.other.Read(at)
		if !bytes.Equal(x, y) {
			b.t.Fatalf("sector %d: %.40x, want %.40x", at, x, y)
		}
	}
}

// make formats or opens operations, at a place that may not be one. What was there ahead goes on, if that is refused.
func (b *both) make() {
	at := []int{0, 1, 1, 1, 2, 3, -1, greatest}[b.draws.next(8)]
	what, of, sof := "Open", op.Open, shelfOpened
	if b.draws.next(4) == 0 {
		what, of, sof = "Format", op.Format, shelfFormatted
	}
	o, err := of(b.d, at)
	s, f := sof(b.other, at)
	b.same(what, told(err), f)
	b.same(what, o == nil, s == nil)
	b.note(what, f)
	if err == nil {
		b.o, b.s = o, s
	}
}

// text is a text to define: most of them are good, few have a name of their own.
func (b *both) text() string {
	switch b.draws.next(12) {
	case 0:
		list := faults()
		return list[b.draws.next(len(list))].text
	case 1:
		return b.draws.operation("same", true)
	case 2, 3, 4:
		list := texts()
		return list[b.draws.next(len(list))]
	}
	return b.draws.operation("o_"+string(rune('a'+b.draws.next(26))), b.draws.next(2) == 0)
}

func (b *both) define() {
	text := b.text()
	n, err := b.o.Define(text)
	m, f := b.s.define(text)
	b.same("Define of "+text, n, m)
	b.same("Define of "+text, told(err), f)
	b.note("Define", f)
}

// ask asks all that is told of an operation.
func (b *both) ask() {
	id := b.draws.next(19) - 1
	d, there := b.s.def(id)
	want, info, runs := "", api.Info{}, 0
	if there {
		want, runs = b.s.texts[id-1], b.s.runs[id-1]
		info, _ = check.Check(d)
	}
	text, ok := b.o.Text(id)
	b.same("Text", text, want)
	b.same("Text", ok, there)
	got, ok := b.o.Info(id)
	b.same("Info", got, info)
	b.same("Info", ok, there)
	b.same("Params", b.o.Params(id), len(d.Params))
	b.same("Runs", b.o.Runs(id), runs)
	name := d.Name
	if b.draws.next(2) == 0 {
		name = []string{"same", "add", "o_a", "o_b", "", "x"}[b.draws.next(6)]
	}
	count, found := 0, 0
	if b.s != nil {
		count, found = len(b.s.texts), b.s.find(name)
	}
	b.same("Len", b.o.Len(), count)
	n, ok := b.o.Find(name)
	b.same("Find of "+name, n, found)
	b.same("Find of "+name, ok, found > 0)
	b.note("ask", api.Fault{})
}

func (b *both) run() {
	id := b.draws.next(b.o.Len()+3) - 1
	d, _ := b.s.def(id)
	args := b.draws.args(len(d.Params))
	if b.draws.next(8) == 0 {
		args = b.draws.args(b.draws.next(10))
	}
	p := b.draws.page()
	if b.draws.next(2) == 0 {
		got, want := ran(b.o, id, p, args...), b.s.run(id, runOf, p, args)
		b.same("Run", got, want)
		b.note("Run", want.err)
		return
	}
	got, want := undone(b.o, id, p, args...), b.s.run(id, undoOf, p, args)
	b.same("Undo", got, want)
	b.note("Undo", want.err)
}

// shake arms both devices, or crashes them, or writes something into a sector of both.
func (b *both) shake() {
	var keep []int
	for _, at := range b.d.Unsynced() {
		if b.draws.next(2) == 0 {
			keep = append(keep, at)
		}
	}
	kind, n := b.draws.next(9), b.draws.next(8)
	sector := [][]byte{sectorOf("op x() {"), sectorOf("op x() { }"), sectorOf("op y() { }"), make([]byte, 512)}[b.draws.next(4)]
	for _, d := range []*disk.Device{b.d, b.other} {
		switch {
		case kind < 2:
			d.Arm(n)
		case kind < 8:
			d.Crash(keep...)
		default:
			d.Write(1+2*n, sector)
		}
	}
}

func TestCallsInAnyOrder(t *testing.T) {
	seen := map[string]int{}
	for seed := range 120 {
		b := &both{t: t, draws: &maker{draw: draw(1000 + seed)}, d: device(t, 18), other: device(t, 18), seen: seen}
		for range 200 {
			switch b.draws.next(12) {
			case 0:
				b.make()
			case 1:
				b.shake()
			case 2, 3, 4, 5, 6:
				b.define()
			case 7:
				b.ask()
			default:
				b.run()
			}
			b.sameDevices()
		}
	}
	for what, least := range map[string]int{
		"Open": 400, "Open range": 300, "Open down": 60, "Open box": 30, "Format": 150, "Format range": 100, "Format down": 50,
		"Define": 3000, "Define down": 1000, "Define there": 1000, "Define full": 500, "Define syntax": 100, "Define token": 100, "Define name": 50, "Define form": 50,
		"Run": 1500, "Run need": 100, "Run form": 200, "Run code": 1000, "Undo": 1000, "Undo form": 100, "Undo code": 1000, "ask": 1500,
	} {
		if seen[what] < least {
			t.Errorf("%s: %d times, want %d: %v", what, seen[what], least, seen)
		}
	}
}
