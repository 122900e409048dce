package disk_test

import (
	"bytes"
	"math"
	"slices"
	"testing"

	"palimpsest/api"
	"palimpsest/disk"
)

// The calls must have just these signatures: the layers above are built on them.
var (
	_ func(int) (*disk.Device, error)          = disk.New
	_ func(*disk.Device) int                   = (*disk.Device).Size
	_ func(*disk.Device, int) ([]byte, error)  = (*disk.Device).Read
	_ func(*disk.Device, int, ...[]byte) error = (*disk.Device).Write
	_ func(*disk.Device) error                 = (*disk.Device).Sync
	_ func(*disk.Device) []int                 = (*disk.Device).Unsynced
	_ func(*disk.Device) int                   = (*disk.Device).Steps
	_ func(*disk.Device) int                   = (*disk.Device).Syncs
	_ func(*disk.Device) bool                  = (*disk.Device).Down
	_ func(*disk.Device, int) error            = (*disk.Device).Arm
	_ func(d *disk.Device, keep ...int)        = (*disk.Device).Crash
)

// fresh is a device of so many sectors.
func fresh(t *testing.T, size int) *disk.Device {
	t.Helper()
	d, err := disk.New(size)
	if err != nil || d == nil {
		t.Fatalf("New(%d): %v, %v", size, d, err)
	}
	return d
}

// row is n bytes, all of them v.
func row(n int, v byte) []byte { return bytes.Repeat([]byte{v}, n) }

// full is a sector's bytes, no two neighbours alike, other ones for every v but 0.
func full(v byte) []byte {
	b := make([]byte, 512)
	for i := range b {
		b[i] = v * byte(i%127+1)
	}
	return b
}

// answers holds an error against the one that is wanted.
func answers(t *testing.T, what string, got, want error) {
	t.Helper()
	if got != want {
		t.Errorf("%s: %v, want %v", what, got, want)
	}
}

// holds tells of a sector that hasn't just these bytes.
func holds(t *testing.T, d *disk.Device, at int, want []byte) {
	t.Helper()
	got, err := d.Read(at)
	if err != nil || !bytes.Equal(got, want) {
		t.Errorf("sector %d: %v, begins with %v, want %v", at, err, got[:min(4, len(got))], want[:4])
	}
}

// tells holds a device's counts against those that are wanted.
func tells(t *testing.T, d *disk.Device, steps, syncs int, down bool, unsynced ...int) {
	t.Helper()
	if d.Steps() != steps || d.Syncs() != syncs || d.Down() != down || !slices.Equal(d.Unsynced(), unsynced) {
		t.Errorf("steps %d, syncs %d, down %v, unsynced %v, want %d, %d, %v, %v",
			d.Steps(), d.Syncs(), d.Down(), d.Unsynced(), steps, syncs, down, unsynced)
	}
}

// P1.1: New

func TestNewRefusesSizes(t *testing.T) {
	for _, size := range []int{math.MinInt, -1, 0, 4097, math.MaxInt} {
		d, err := disk.New(size)
		answers(t, "New", err, api.ErrRange)
		if d != nil {
			t.Errorf("New(%d): a device beside an error", size)
		}
	}
}

func TestNewDeviceIsEmpty(t *testing.T) {
	for _, size := range []int{1, 2, 4096} {
		d := fresh(t, size)
		if d.Size() != size {
			t.Errorf("size %d, want %d", d.Size(), size)
		}
		tells(t, d, 0, 0, false)
		for at := range size {
			holds(t, d, at, full(0))
		}
	}
}

func TestDevicesAreApart(t *testing.T) {
	a, b := fresh(t, 2), fresh(t, 2)
	answers(t, "Write", a.Write(0, full(1)), nil)
	answers(t, "Arm", a.Arm(0), nil)
	answers(t, "Sync", a.Sync(), api.ErrDown)
	tells(t, b, 0, 0, false)
	holds(t, b, 0, full(0))
	answers(t, "Sync", b.Sync(), nil)
}

// P1.1: Read and Write

func TestReadAndWriteRange(t *testing.T) {
	for _, size := range []int{1, 3, 4096} {
		d := fresh(t, size)
		for _, at := range []int{math.MinInt, -1, size, size + 1, math.MaxInt} {
			b, err := d.Read(at)
			answers(t, "Read", err, api.ErrRange)
			if len(b) != 0 {
				t.Errorf("Read(%d): bytes beside an error", at)
			}
			answers(t, "Write", d.Write(at, full(1)), api.ErrRange)
		}
		tells(t, d, 0, 0, false)
		answers(t, "Write", d.Write(0, full(1)), nil)
		answers(t, "Write", d.Write(size-1, full(2)), nil)
		holds(t, d, size-1, full(2))
	}
}

func TestWriteJoinsParts(t *testing.T) {
	want := full(3)
	single := make([][]byte, 0, 512)
	for i := range want {
		single = append(single, want[i:i+1])
	}
	cuts := [][][]byte{
		{want},
		{want[:1], want[1:]},
		{want[:511], want[511:]},
		{nil, want[:200], {}, want[200:400], want[400:], nil},
		single,
	}
	for i, parts := range cuts {
		d := fresh(t, 2)
		answers(t, "Write", d.Write(1, parts...), nil)
		holds(t, d, 1, want)
		holds(t, d, 0, full(0))
		tells(t, d, 1, 0, false, 1)
		if t.Failed() {
			t.Fatalf("cut %d", i)
		}
	}
}

func TestWriteTakesTheSamePartTwice(t *testing.T) {
	d := fresh(t, 1)
	half := full(5)[:256]
	answers(t, "Write", d.Write(0, half, half), nil)
	holds(t, d, 0, append(append([]byte{}, half...), half...))
}

func TestWriteReplacesAll(t *testing.T) {
	d := fresh(t, 1)
	answers(t, "Write", d.Write(0, full(1)), nil)
	answers(t, "Write", d.Write(0, full(2)), nil)
	holds(t, d, 0, full(2))
	answers(t, "Write", d.Write(0, full(0)), nil)
	holds(t, d, 0, full(0))
	tells(t, d, 3, 0, false, 0)
}

func TestWriteRefusesForms(t *testing.T) {
	bad := [][][]byte{
		nil,
		{nil},
		{{}, {}},
		{row(511, 1)},
		{row(513, 1)},
		{row(512, 1), row(1, 1)},
		{row(1, 1), row(512, 1)},
		{row(512, 1), row(512, 1)},
		{row(256, 1), row(255, 1)},
		{row(256, 1), row(256, 1), row(256, 1)},
		{row(1<<20, 1)},
	}
	d := fresh(t, 2)
	answers(t, "Write", d.Write(0, full(9)), nil)
	for i, parts := range bad {
		if err := d.Write(0, parts...); err != api.ErrForm {
			t.Errorf("parts %d: %v, want %v", i, err, api.ErrForm)
		}
		if err := d.Write(1, parts...); err != api.ErrForm {
			t.Errorf("parts %d: %v, want %v", i, err, api.ErrForm)
		}
	}
	tells(t, d, 1, 0, false, 0)
	holds(t, d, 0, full(9))
	holds(t, d, 1, full(0))
}

func TestErrorsInOrder(t *testing.T) {
	d := fresh(t, 2)
	answers(t, "range ahead of form", d.Write(2, nil), api.ErrRange)
	answers(t, "Arm", d.Arm(0), nil)
	answers(t, "Sync", d.Sync(), api.ErrDown)
	answers(t, "range ahead of form and down", d.Write(-1, row(3, 1)), api.ErrRange)
	answers(t, "range ahead of down", d.Write(2, full(1)), api.ErrRange)
	answers(t, "form ahead of down", d.Write(1, row(3, 1)), api.ErrForm)
	answers(t, "down", d.Write(1, full(1)), api.ErrDown)
	_, err := d.Read(2)
	answers(t, "range ahead of down", err, api.ErrRange)
	b, err := d.Read(1)
	answers(t, "down", err, api.ErrDown)
	if len(b) != 0 {
		t.Error("bytes beside an error")
	}
	answers(t, "Arm while the power is gone", d.Arm(-1), api.ErrRange)
}

// P1.1: Sync, Unsynced, Steps, Syncs

func TestUnsynced(t *testing.T) {
	d := fresh(t, 300)
	var want []int
	for i := range 300 {
		at := i * 7 % 300
		answers(t, "Write", d.Write(at, full(1)), nil)
		want = append(want, at)
		slices.Sort(want)
		if got := d.Unsynced(); !slices.Equal(got, want) {
			t.Fatalf("%v, want %v", got, want)
		}
	}
	answers(t, "Sync", d.Sync(), nil)
	tells(t, d, 301, 1, false)
}

func TestUnsyncedCountsSameBytesOnce(t *testing.T) {
	d := fresh(t, 3)
	answers(t, "Write", d.Write(2, full(0)), nil)
	tells(t, d, 1, 0, false, 2)
	answers(t, "Write", d.Write(2, full(0)), nil)
	tells(t, d, 2, 0, false, 2)
	answers(t, "Sync", d.Sync(), nil)
	tells(t, d, 3, 1, false)
	answers(t, "Write", d.Write(0, full(0)), nil)
	tells(t, d, 4, 1, false, 0)
}

func TestSyncWithoutWritesIsAStep(t *testing.T) {
	d := fresh(t, 1)
	answers(t, "Sync", d.Sync(), nil)
	answers(t, "Sync", d.Sync(), nil)
	tells(t, d, 2, 2, false)
}

func TestReadsAreNoSteps(t *testing.T) {
	d := fresh(t, 2)
	answers(t, "Arm", d.Arm(0), nil)
	holds(t, d, 0, full(0))
	if d.Size() != 2 {
		t.Error(d.Size())
	}
	tells(t, d, 0, 0, false)
}

// P1.1, P1.3: Arm

func TestArmRefuses(t *testing.T) {
	d := fresh(t, 1)
	for _, n := range []int{-1, math.MinInt} {
		answers(t, "Arm", d.Arm(n), api.ErrRange)
	}
	answers(t, "a refused Arm arms nothing", d.Sync(), nil)
	answers(t, "Arm", d.Arm(1), nil)
	answers(t, "Arm", d.Arm(-1), api.ErrRange)
	answers(t, "a refused Arm leaves what was armed", d.Sync(), nil)
	answers(t, "a refused Arm leaves what was armed", d.Sync(), api.ErrDown)
}

func TestArmedStepsAreJustSoMany(t *testing.T) {
	for n := range 9 {
		for pattern := range 1 << 9 {
			d := fresh(t, 2)
			answers(t, "Sync", d.Sync(), nil)
			answers(t, "Arm", d.Arm(n), nil)
			for i := range 9 {
				var err error
				if pattern>>i&1 == 0 {
					err = d.Write(i%2, full(byte(i)))
				} else {
					err = d.Sync()
				}
				if (err == nil) != (i < n) || err != nil && err != api.ErrDown || d.Down() != (i >= n) {
					t.Fatalf("armed with %d, pattern %b, step %d: %v, down %v", n, pattern, i, err, d.Down())
				}
			}
			if d.Steps() != n+1 {
				t.Fatalf("armed with %d: %d steps", n, d.Steps()-1)
			}
		}
	}
}

func TestRefusedCallsAreNoSteps(t *testing.T) {
	d := fresh(t, 2)
	answers(t, "Arm", d.Arm(1), nil)
	refuse := func() {
		answers(t, "range", d.Write(2, full(1)), api.ErrRange)
		answers(t, "form", d.Write(0, row(511, 1)), api.ErrForm)
		answers(t, "Arm", d.Arm(-1), api.ErrRange)
		_, err := d.Read(-1)
		answers(t, "Read", err, api.ErrRange)
	}
	refuse()
	tells(t, d, 0, 0, false)
	answers(t, "Write", d.Write(0, full(1)), nil)
	refuse()
	tells(t, d, 1, 0, false, 0)
	answers(t, "Write", d.Write(1, full(1)), api.ErrDown)
	tells(t, d, 1, 0, true, 0)
}

func TestArmAgainReplaces(t *testing.T) {
	d := fresh(t, 1)
	answers(t, "Arm", d.Arm(0), nil)
	answers(t, "Arm", d.Arm(2), nil)
	answers(t, "Sync", d.Sync(), nil)
	answers(t, "Arm", d.Arm(1), nil)
	answers(t, "Sync", d.Sync(), nil)
	answers(t, "Sync", d.Sync(), api.ErrDown)
	tells(t, d, 2, 2, true)
}

func TestArmWithTheGreatestNumber(t *testing.T) {
	d := fresh(t, 1)
	answers(t, "Arm", d.Arm(math.MaxInt), nil)
	for range 100 {
		answers(t, "Sync", d.Sync(), nil)
	}
	tells(t, d, 100, 100, false)
}

func TestArmWhileThePowerIsGone(t *testing.T) {
	d := fresh(t, 1)
	answers(t, "Arm", d.Arm(0), nil)
	answers(t, "Sync", d.Sync(), api.ErrDown)
	answers(t, "Arm", d.Arm(5), nil)
	answers(t, "Sync", d.Sync(), api.ErrDown)
	answers(t, "Write", d.Write(0, full(1)), api.ErrDown)
	tells(t, d, 0, 0, true)
	d.Crash()
	for range 7 {
		answers(t, "a crash disarms", d.Sync(), nil)
	}
}

func TestArmBehindACrash(t *testing.T) {
	d := fresh(t, 1)
	for round := range 3 {
		answers(t, "Arm", d.Arm(1), nil)
		answers(t, "Sync", d.Sync(), nil)
		answers(t, "Sync", d.Sync(), api.ErrDown)
		tells(t, d, round+1, round+1, true)
		d.Crash()
		tells(t, d, round+1, round+1, false)
	}
}

func TestCrashDisarmsWhileThePowerIsThere(t *testing.T) {
	d := fresh(t, 1)
	answers(t, "Arm", d.Arm(0), nil)
	d.Crash()
	answers(t, "Sync", d.Sync(), nil)
	tells(t, d, 1, 1, false)
}

// P1.2: what a crash leaves

func TestExamples(t *testing.T) {
	a, b, c := full(1), full(2), full(3)
	d := fresh(t, 4)
	answers(t, "Write", d.Write(1, a), nil)
	answers(t, "Sync", d.Sync(), nil)
	answers(t, "Write", d.Write(1, b), nil)
	answers(t, "Write", d.Write(2, c), nil)
	d.Crash(2)
	holds(t, d, 1, a)
	holds(t, d, 2, c)
	answers(t, "Arm", d.Arm(1), nil)
	answers(t, "Write", d.Write(0, a), nil)
	answers(t, "Write", d.Write(3, a), api.ErrDown)
	_, err := d.Read(1)
	answers(t, "Read", err, api.ErrDown)
	d.Crash()
	for at, want := range [][]byte{full(0), a, c, full(0)} {
		holds(t, d, at, want)
	}
}

func TestCrashKeepsJustWhatIsNamed(t *testing.T) {
	for mask := range 16 {
		d := fresh(t, 5)
		for at := range 5 {
			answers(t, "Write", d.Write(at, full(1)), nil)
		}
		answers(t, "Sync", d.Sync(), nil)
		for at := range 4 {
			answers(t, "Write", d.Write(at, full(9)), nil)
			answers(t, "Write", d.Write(at, full(2)), nil)
		}
		var keep []int
		for at := range 4 {
			if mask>>at&1 == 1 {
				keep = append([]int{at, at}, keep...)
			}
		}
		d.Crash(append(keep, 4, 5, -1, math.MaxInt, math.MinInt)...)
		for at := range 4 {
			want := full(1)
			if mask>>at&1 == 1 {
				want = full(2)
			}
			holds(t, d, at, want)
		}
		holds(t, d, 4, full(1))
		tells(t, d, 14, 1, false)
	}
}

func TestCrashSyncsWhatItLeaves(t *testing.T) {
	d := fresh(t, 3)
	answers(t, "Write", d.Write(0, full(1)), nil)
	answers(t, "Write", d.Write(1, full(2)), nil)
	d.Crash(0)
	tells(t, d, 2, 0, false)
	d.Crash()
	holds(t, d, 0, full(1))
	holds(t, d, 1, full(0))
	answers(t, "Write", d.Write(0, full(3)), nil)
	answers(t, "Write", d.Write(1, full(4)), nil)
	d.Crash(2)
	holds(t, d, 0, full(1))
	holds(t, d, 1, full(0))
}

func TestSyncedOutlivesManyCrashes(t *testing.T) {
	d := fresh(t, 2)
	answers(t, "Write", d.Write(0, full(1)), nil)
	answers(t, "Sync", d.Sync(), nil)
	for n := range 5 {
		answers(t, "Arm", d.Arm(n), nil)
		for range n {
			answers(t, "Write", d.Write(1, full(byte(n+2))), nil)
		}
		answers(t, "Write", d.Write(1, full(99)), api.ErrDown)
		d.Crash(1)
		holds(t, d, 0, full(1))
	}
}

func TestCutSyncSyncsNothing(t *testing.T) {
	d := fresh(t, 2)
	answers(t, "Write", d.Write(0, full(1)), nil)
	answers(t, "Arm", d.Arm(0), nil)
	answers(t, "Sync", d.Sync(), api.ErrDown)
	tells(t, d, 1, 0, true, 0)
	d.Crash()
	holds(t, d, 0, full(0))
}

func TestCutWriteWritesNothing(t *testing.T) {
	d := fresh(t, 2)
	answers(t, "Write", d.Write(0, full(1)), nil)
	answers(t, "Arm", d.Arm(0), nil)
	answers(t, "Write", d.Write(0, full(2)[:300], full(2)[300:]), api.ErrDown)
	answers(t, "Write", d.Write(1, full(2)), api.ErrDown)
	tells(t, d, 1, 0, true, 0)
	d.Crash(0, 1)
	holds(t, d, 0, full(1))
	holds(t, d, 1, full(0))
}

// P1.4: what is handed in, and answers

func TestWriteKeepsNoParts(t *testing.T) {
	d := fresh(t, 1)
	room := append(full(1), row(64, 77)...)
	left, right := room[:100], room[100:512]
	parts := [][]byte{left, right}
	answers(t, "Write", d.Write(0, parts...), nil)
	if !bytes.Equal(room[:512], full(1)) || !bytes.Equal(room[512:], row(64, 77)) || len(parts) != 2 || len(parts[0]) != 100 {
		t.Error("Write changed what it was handed")
	}
	clear(room)
	parts[0], parts[1] = nil, nil
	holds(t, d, 0, full(1))
	answers(t, "Sync", d.Sync(), nil)
	d.Crash()
	holds(t, d, 0, full(1))
}

func TestReadAnswersNewMemory(t *testing.T) {
	d := fresh(t, 2)
	answers(t, "Write", d.Write(0, full(1)), nil)
	for at, want := range [][]byte{full(1), full(0)} {
		one, _ := d.Read(at)
		two, _ := d.Read(at)
		for i := range one {
			one[i] = 99
		}
		if !bytes.Equal(two, want) {
			t.Errorf("two answers share memory: sector %d", at)
		}
		holds(t, d, at, want)
	}
	answers(t, "Write", d.Write(1, full(4)), nil)
	b, _ := d.Read(1)
	answers(t, "Write", d.Write(1, full(5)), nil)
	d.Crash()
	if !bytes.Equal(b, full(4)) {
		t.Error("a later call changed an answer")
	}
}

func TestUnsyncedAnswersNewMemory(t *testing.T) {
	d := fresh(t, 3)
	answers(t, "Write", d.Write(2, full(1)), nil)
	answers(t, "Write", d.Write(1, full(1)), nil)
	one, two := d.Unsynced(), d.Unsynced()
	one[0], one[1] = 7, 8
	if !slices.Equal(two, []int{1, 2}) {
		t.Error(two)
	}
	tells(t, d, 2, 0, false, 1, 2)
}

func TestCrashLeavesKeep(t *testing.T) {
	d := fresh(t, 3)
	for at := range 3 {
		answers(t, "Write", d.Write(at, full(1)), nil)
	}
	room := []int{2, 9, 0, 2, 55, 66}
	d.Crash(room[:4]...)
	if !slices.Equal(room, []int{2, 9, 0, 2, 55, 66}) {
		t.Error(room)
	}
	holds(t, d, 1, full(0))
	holds(t, d, 2, full(1))
}

// P1.1: a nil Device

func TestNilDevice(t *testing.T) {
	var d *disk.Device
	d.Crash()
	d.Crash(0, 1)
	for _, at := range []int{-1, 0, 1} {
		b, err := d.Read(at)
		answers(t, "Read", err, api.ErrRange)
		if len(b) != 0 {
			t.Error("bytes beside an error")
		}
		answers(t, "Write", d.Write(at, full(1)), api.ErrRange)
		answers(t, "Write", d.Write(at), api.ErrRange)
		answers(t, "Arm", d.Arm(at), api.ErrRange)
	}
	answers(t, "Sync", d.Sync(), api.ErrDown)
	tells(t, d, 0, 0, false)
	if d.Size() != 0 {
		t.Error(d.Size())
	}
}
