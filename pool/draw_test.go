package pool_test

import (
	"bytes"
	"maps"
	"slices"
	"testing"

	"palimpsest/api"
	"palimpsest/disk"
	"palimpsest/journal"
	"palimpsest/page"
)

// P14.1 to P14.4: calls in any order, held against a second reading of the chapter on a device of its own

// draw is numbers in a row that looks like chance.
type draw uint64

// next is a number below n.
func (d *draw) next(n int) int {
	*d = *d*6364136223846793005 + 1442695040888963407
	return int(*d>>33) % n
}

// mark is a Write of a page, or its way to the device, at a time.
type mark struct {
	lsn  int
	time int
}

// reading is what a Pool holds, by the second reading: it keeps all that ever happened, and works out from that what is told.
type reading struct {
	d      *disk.Device
	j      *journal.Journal
	n      int
	most   int
	now    map[int]api.Page
	pins   map[int]int
	writes map[int][]mark
	outs   map[int][]mark
	time   int
	syncs  int
	synced int // when the last sync was
}

func newReading(d *disk.Device, j *journal.Journal, n, most int) *reading {
	return &reading{d, j, n, most, map[int]api.Page{}, map[int]int{}, map[int][]mark{}, map[int][]mark{}, 0, d.Syncs(), 0}
}

// tick lets time go on. What happened up to now is synced, if the device was.
func (r *reading) tick() int {
	if r.d.Syncs() != r.syncs {
		r.syncs, r.synced = r.d.Syncs(), r.time
	}
	r.time++
	return r.time
}

// pending is the Writes of a page since it was last written out.
func (r *reading) pending(number int) []mark {
	outs := r.outs[number]
	if len(outs) == 0 {
		return r.writes[number]
	}
	return slices.DeleteFunc(slices.Clone(r.writes[number]), func(w mark) bool { return w.time < outs[len(outs)-1].time })
}

func (r *reading) isDirty(number int) bool {
	return len(r.pending(number)) > 0
}

// out writes a page out.
func (r *reading) out(number int) error {
	if !r.isDirty(number) {
		return nil
	}
	x := r.now[number]
	if x.Lsn >= r.j.Flushed() {
		if err := r.j.Flush(); err != nil {
			return err
		}
	}
	r.tick()
	if err := r.d.Write(base+number, page.Encode(x)); err != nil {
		return err
	}
	r.outs[number] = append(r.outs[number], mark{time: r.tick()})
	return nil
}

// lacking is the Writes of a page that came to the device behind its last sync, or didn't as yet.
func (r *reading) lacking(number int) []mark {
	var list []mark
	for _, w := range r.writes[number] {
		way := slices.IndexFunc(r.outs[number], func(o mark) bool { return o.time > w.time })
		if way < 0 || r.outs[number][way].time > r.synced {
			list = append(list, w)
		}
	}
	return list
}

func (r *reading) dirty() []api.Dirty {
	r.tick()
	var list []api.Dirty
	for number := range r.n {
		var lsns []int
		if pending := r.pending(number); len(pending) > 0 {
			lsns = append(lsns, pending[0].lsn)
		}
		if slices.ContainsFunc(r.outs[number], func(o mark) bool { return o.time > r.synced }) {
			for _, w := range r.lacking(number) {
				lsns = append(lsns, w.lsn)
			}
		}
		if len(lsns) > 0 {
			list = append(list, api.Dirty{Page: number, Lsn: slices.Min(lsns)})
		}
	}
	return list
}

func (r *reading) frames() []int {
	return slices.Sorted(maps.Keys(r.now))
}

// spares is the pages in memory that aren't pinned.
func (r *reading) spares() []int {
	return slices.DeleteFunc(r.frames(), func(number int) bool { return r.pins[number] > 0 })
}

// pair is the program and the second reading, each with a device and a log of its own, under the same calls.
type pair struct {
	*bench
	r     *reading
	draws draw
	value int // of the next page that is written, so that no two are the same
	seen  map[string]int
	bad   map[int]bool // the pages whose sectors may be no page's
}

func newPair(t *testing.T, seed int, seen map[string]int) *pair {
	p := &pair{draws: draw(seed), seen: seen, bad: map[int]bool{}}
	n := []int{1, 2, 3, 5, 8, 12}[p.draws.next(6)]
	d, other := device(t, base+n+1), device(t, base+n+1)
	p.bench = &bench{nil, t, d, formatted(t, d), n}
	p.renew(formatted(t, other), other)
	return p
}

// renew makes a new pool over the device.
func (p *pair) renew(other *journal.Journal, d *disk.Device) {
	frames := []int{1, 1, 2, 3, p.n, 64}[p.draws.next(6)]
	p.Pool = opened(p.t, p.d, p.j, base, p.n, frames)
	p.r = newReading(d, other, p.n, frames)
}

func (p *pair) note(what string, err error) {
	if err != nil {
		what += " " + err.Error()
	}
	p.seen[what]++
}

func (p *pair) same(what string, got, want any) {
	p.t.Helper()
	if got != want {
		p.t.Fatalf("%s: %v, want %v", what, got, want)
	}
}

// alike holds all that can be told of both against each other.
func (p *pair) alike() {
	p.t.Helper()
	if got, want := p.Frames(), p.r.frames(); !slices.Equal(got, want) || len(got) > p.r.most {
		p.t.Fatal("Frames", got, want)
	}
	if got, want := p.Dirty(), p.r.dirty(); !slices.Equal(got, want) {
		p.t.Fatal("Dirty", got, want)
	}
	p.same("Len", p.Len(), p.n)
	p.same("Flushed", p.j.Flushed(), p.r.j.Flushed())
	p.same("Next", p.j.Next(), p.r.j.Next())
	p.same("Dead", p.j.Dead(), p.r.j.Dead())
	p.same("Steps", p.d.Steps(), p.r.d.Steps())
	p.same("Syncs", p.d.Syncs(), p.r.d.Syncs())
	p.same("Down", p.d.Down(), p.r.d.Down())
	if got, want := p.d.Unsynced(), p.r.d.Unsynced(); !slices.Equal(got, want) {
		p.t.Fatal("Unsynced", got, want)
	}
	for at := range p.d.Size() {
		x, _ := p.d.Read(at)
		y, _ := p.r.d.Read(at)
		if !bytes.Equal(x, y) {
			p.t.Fatalf("sector %d: %.40x, want %.40x", at, x, y)
		}
	}
}

// bring lets the second reading bring a page, behind the program's call that answered err and left these frames. Which page made room is
// free, so the reading learns it from what is to be seen.
func (p *pair) bring(number int, err error) error {
	p.t.Helper()
	r := p.r
	if number < 0 || number >= r.n {
		return api.ErrRange
	}
	if _, ok := r.now[number]; ok {
		return nil
	}
	old := -1
	if len(r.now) == r.most {
		if len(r.spares()) == 0 {
			return api.ErrPool
		}
		if old = p.spared(err); old >= 0 {
			if err := r.out(old); err != nil {
				return err
			}
		} else if p.isCut(err) {
			return api.ErrDown
		}
	}
	b, failed := r.d.Read(base + number)
	if failed != nil {
		return failed
	}
	x, failed := page.Decode(b)
	if failed != nil {
		return failed
	}
	delete(r.now, old)
	r.now[number] = x
	return nil
}

// spared is the page that made room, or -1 where that isn't to be seen.
func (p *pair) spared(err error) int {
	frames := p.Frames()
	for _, number := range p.r.spares() {
		if err == nil && !slices.Contains(frames, number) {
			return number
		}
		b, _ := p.d.Read(base + number)
		was, _ := p.r.d.Read(base + number)
		if err == api.ErrBox && !bytes.Equal(b, was) {
			return number
		}
	}
	return -1
}

// isCut tells whether the power's end, or a dead log, met a page that was to be written out, and lets the reading's device meet it, too.
func (p *pair) isCut(err error) bool {
	r := p.r
	asks, goes := false, false
	for _, number := range r.spares() {
		if r.isDirty(number) {
			asks = asks || r.now[number].Lsn >= r.j.Flushed()
			goes = goes || r.now[number].Lsn < r.j.Flushed()
		}
	}
	cut := err == api.ErrDown && asks && r.j.Dead()
	if p.j.Dead() != r.j.Dead() || p.j.Flushed() != r.j.Flushed() {
		p.same("a page asks for the log", asks, true)
		cut, goes = true, true
		r.j.Flush()
	}
	if p.d.Down() && !r.d.Down() {
		p.same("a page goes to the device", asks || goes, true)
		cut = true
		r.d.Write(base, make([]byte, 512))
	}
	return cut
}

// number is a page, now and then one that there isn't.
func (p *pair) number() int {
	if p.draws.next(12) == 0 {
		return []int{-1, p.n, least, greatest}[p.draws.next(4)]
	}
	return p.draws.next(p.n)
}

// page is a page to write: most of them have a record of their own.
func (p *pair) page() api.Page {
	p.value++
	lsn := p.j.Next() - 1
	switch p.draws.next(8) {
	case 0:
		lsn = p.j.Flushed() + p.draws.next(5) - 2
	case 1:
		lsn = p.draws.next(20) - 3
	default:
		p.append()
		lsn = p.j.Next() - 1
	}
	return sheet(lsn, p.value)
}

func (p *pair) append() {
	_, err := p.j.Append([]byte("r"))
	_, failed := p.r.j.Append([]byte("r"))
	p.same("Append", err, failed)
	if err == api.ErrLog {
		p.same("Trim", p.j.Trim(p.j.Next(), nil), p.r.j.Trim(p.r.j.Next(), nil))
	}
}

func (p *pair) read() {
	number := p.number()
	x, err := p.Read(number)
	want := p.bring(number, err)
	p.same("Read", err, want)
	if err == nil {
		p.same("Read", x, p.r.now[number])
	} else {
		p.same("Read", x, api.Page{})
	}
	p.note("Read", err)
}

func (p *pair) write() {
	number, x := p.number(), p.page()
	err := p.Write(number, x)
	want := p.bring(number, err)
	p.same("Write", err, want)
	if err == nil {
		p.r.now[number] = x
		p.r.writes[number] = append(p.r.writes[number], mark{x.Lsn, p.r.tick()})
	}
	p.note("Write", err)
}

func (p *pair) pin() {
	number := p.number()
	err := p.Pin(number)
	want := p.bring(number, err)
	p.same("Pin", err, want)
	if err == nil {
		p.r.pins[number]++
	}
	p.note("Pin", err)
}

func (p *pair) unpin() {
	number := p.number()
	if list := slices.Sorted(maps.Keys(p.r.pins)); len(list) > 0 && p.draws.next(3) > 0 {
		number = list[p.draws.next(len(list))]
	}
	err := p.Unpin(number)
	var want error
	switch {
	case number < 0 || number >= p.n:
		want = api.ErrRange
	case p.r.pins[number] == 0:
		want = api.ErrGone
	default:
		p.r.pins[number]--
	}
	p.same("Unpin", err, want)
	p.note("Unpin", err)
}

func (p *pair) evict() {
	number := p.number()
	err := p.Evict(number)
	_, there := p.r.now[number]
	var want error
	switch {
	case number < 0 || number >= p.n:
		want = api.ErrRange
	case !there:
		want = api.ErrGone
	case p.r.pins[number] > 0:
		want = api.ErrPool
	default:
		want = p.r.out(number)
	}
	if want == nil {
		delete(p.r.now, number)
	}
	p.same("Evict", err, want)
	p.note("Evict", err)
}

func (p *pair) clean() {
	err := p.Clean()
	var want error
	for _, number := range p.r.frames() {
		if want == nil {
			want = p.r.out(number)
		}
	}
	if want == nil {
		want = p.r.d.Sync()
	}
	p.same("Clean", err, want)
	p.note("Clean", err)
}

// sync syncs the device: by the pool, by the log, or by hand.
func (p *pair) sync() {
	switch p.draws.next(3) {
	case 0:
		err := p.Sync()
		p.same("Sync", err, p.r.d.Sync())
		p.note("Sync", err)
	case 1:
		p.append()
		err := p.j.Flush()
		p.same("Flush", err, p.r.j.Flush())
		p.note("Flush", err)
	default:
		p.same("the device's Sync", p.d.Sync(), p.r.d.Sync())
	}
}

// shake arms both devices, or lets both crash; then most times the pool and the log are new.
func (p *pair) shake() {
	if p.draws.next(2) == 0 {
		left := p.draws.next(12)
		p.same("Arm", p.d.Arm(left), p.r.d.Arm(left))
		return
	}
	var keep []int
	for _, at := range p.d.Unsynced() {
		if p.draws.next(2) == 0 {
			keep = append(keep, at)
		}
	}
	p.d.Crash(keep...)
	p.r.d.Crash(keep...)
	if p.draws.next(4) == 0 {
		return
	}
	j, err := journal.Open(p.d, 0, ring)
	other, failed := journal.Open(p.r.d, 0, ring)
	if err != nil || failed != nil {
		p.t.Fatal(err, failed)
	}
	p.j = j
	p.renew(other, p.r.d)
}

// spoil lets a sector of both be no page's, or one again.
func (p *pair) spoil() {
	number := p.draws.next(p.n)
	if _, there := p.r.now[number]; there && !p.bad[number] {
		return
	}
	b := junk()
	if p.bad[number] {
		b = page.Encode(sheet(0, -number))
	}
	p.bad[number] = !p.bad[number]
	p.same("the device's Write", p.d.Write(base+number, b), p.r.d.Write(base+number, b))
}

func TestCallsInAnyOrder(t *testing.T) {
	seen := map[string]int{}
	for seed := range 400 {
		p := newPair(t, 100+seed, seen)
		for range 300 {
			switch p.draws.next(30) {
			case 0:
				p.shake()
			case 1:
				p.spoil()
			case 2, 3:
				p.sync()
			case 4:
				p.clean()
			case 5, 6:
				p.evict()
			case 7, 8:
				p.pin()
			case 9, 10, 11, 12:
				p.unpin()
			case 13, 14, 15, 16, 17, 18, 19, 20:
				p.read()
			default:
				p.write()
			}
			p.alike()
		}
	}
	for what, least := range map[string]int{
		"Read": 10000, "Read range": 1000, "Read pool": 1000, "Read box": 500, "Read down": 500,
		"Write": 10000, "Write range": 1000, "Write pool": 1000, "Write box": 500, "Write down": 500,
		"Pin": 3000, "Pin range": 300, "Pin pool": 300, "Pin box": 100, "Pin down": 100,
		"Unpin": 3000, "Unpin range": 300, "Unpin gone": 1000, "Evict": 1000, "Evict range": 300, "Evict gone": 1000, "Evict pool": 300, "Evict down": 300,
		"Clean": 1000, "Clean down": 300, "Sync": 500, "Sync down": 200, "Flush": 500, "Flush down": 200,
	} {
		if seen[what] < least {
			t.Errorf("%s: %d times, want %d: %v", what, seen[what], least, seen)
		}
	}
}
