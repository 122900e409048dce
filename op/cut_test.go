package op_test

import (
	"bytes"
	"slices"
	"testing"

	"palimpsest/api"
	"palimpsest/op"
)

// P13.1 and P13.2: power that goes

func TestDefineIsCutAtEachStep(t *testing.T) {
	list := texts()
	for ahead := range 16 {
		for armed := range 2 {
			for _, kept := range []bool{false, true} {
				cutDefine(t, list[:ahead], list[ahead], armed, kept)
			}
		}
	}
}

// cutDefine cuts a Define behind so many steps, and holds what is there behind the crash against what must be: all that was defined, and
// the one that was cut if its sector was written and kept.
func cutDefine(t *testing.T, ahead []string, text string, armed int, kept bool) {
	t.Helper()
	const at = 1
	d := device(t, 18)
	o := formatted(t, d, at)
	defined(t, o, ahead...)
	arm(t, d, armed)
	for range 3 {
		n, err := o.Define(text)
		if n != 0 {
			t.Error("a number beside an error")
		}
		answers(t, "Define", err, api.ErrDown)
		holds(t, o, ahead...)
	}
	x, err := op.Open(d, at)
	refuses(t, "Open", x, err, api.ErrDown)
	x, err = op.Format(d, at)
	refuses(t, "Format", x, err, api.ErrDown)
	there := slices.Clone(ahead)
	if d.Unsynced() != nil && armed == 0 {
		t.Error("it wrote without a step")
	}
	if kept {
		d.Crash(d.Unsynced()...)
	} else {
		d.Crash()
	}
	if kept && armed == 1 {
		there = append(there, text)
	}
	holds(t, o, ahead...)
	holds(t, opened(t, d, at), there...)
	// Those that the crash cut don't know what became of it: the next one that they define has its number.
	defined(t, o, "op next() { give 9; }")
	holds(t, o, append(slices.Clone(ahead), "op next() { give 9; }")...)
	holds(t, opened(t, d, at), append(slices.Clone(ahead), "op next() { give 9; }")...)
}

func TestOpensBehindACutGoOn(t *testing.T) {
	list := texts()
	for ahead := range 15 {
		for armed := range 3 {
			for _, kept := range []bool{false, true} {
				d := device(t, 16)
				o := formatted(t, d, 0)
				defined(t, o, list[:ahead]...)
				arm(t, d, armed)
				_, err := o.Define(list[ahead])
				if armed < 2 {
					answers(t, "Define", err, api.ErrDown)
				} else {
					answers(t, "Define", err, 0)
				}
				if kept {
					d.Crash(d.Unsynced()...)
				} else {
					d.Crash()
				}
				o = opened(t, d, 0)
				count := ahead
				if armed == 2 || armed == 1 && kept {
					undefined(t, d, o, list[ahead], errno(api.ErrThere))
					count++
				} else {
					defined(t, o, list[ahead])
					count++
				}
				holds(t, o, list[:count]...)
				defined(t, o, list[count:]...)
				d.Crash()
				holds(t, opened(t, d, 0), list...)
			}
		}
	}
}

func TestWhatWasDefinedOutlivesCrashes(t *testing.T) {
	d := device(t, 20)
	o := formatted(t, d, 4)
	list := texts()
	for i, text := range list {
		defined(t, o, text)
		// What else the device has not synced is no matter of theirs.
		if err := d.Write(0, bytes.Repeat([]byte{byte(i)}, 512)); err != nil {
			t.Fatal(err)
		}
		d.Crash()
		holds(t, o, list[:i+1]...)
		o = opened(t, d, 4)
		holds(t, o, list[:i+1]...)
	}
}

func TestDefineSyncsWhatElseWasWritten(t *testing.T) {
	d := device(t, 17)
	o := formatted(t, d, 0)
	full := bytes.Repeat([]byte{5}, 512)
	if err := d.Write(16, full); err != nil {
		t.Fatal(err)
	}
	defined(t, o, "op x() { }")
	d.Crash()
	has(t, d, 16, full)
}

// P13.2: cut again and again, with whatever is kept: what was answered is there, with its number
func TestDefinesAreCutAgainAndAgain(t *testing.T) {
	draws := draw(132)
	cuts, laid, found := 0, 0, 0
	for range 100 {
		d := device(t, 16)
		o := formatted(t, d, 0)
		rest := texts()
		// left is what the next sector has of a Define that was cut.
		there, left := []string(nil), ""
		for len(rest) > 0 {
			next := draws.next(len(rest))
			arm(t, d, draws.next(3))
			n, err := o.Define(rest[next])
			written := d.Unsynced()
			switch {
			case err == nil:
				there, left = append(there, rest[next]), ""
				rest = slices.Delete(rest, next, next+1)
				if n != len(there) {
					t.Fatal(n, there)
				}
			case draws.next(2) == 0:
				written = nil
			case len(written) > 0:
				left = rest[next]
			}
			if err != nil {
				answers(t, "Define", err, api.ErrDown)
				cuts++
			}
			d.Crash(written...)
			// An Ops that isn't opened again lays its next operation over the one that was cut.
			if draws.next(2) == 0 {
				laid += min(1, len(left))
				holds(t, o, there...)
				continue
			}
			o = opened(t, d, 0)
			if left != "" {
				there, rest = append(there, left), slices.DeleteFunc(rest, func(text string) bool { return text == left })
				left = ""
				found++
			}
			holds(t, o, there...)
		}
		holds(t, opened(t, d, 0), there...)
	}
	if cuts < 1000 || laid < 200 || found < 200 {
		t.Error(cuts, laid, found)
	}
}

// P13.1: a Format that is cut

func TestFormatIsCutAtEachStep(t *testing.T) {
	const at = 2
	list := texts()
	for count := range 17 {
		for armed := range 17 {
			d := device(t, 19)
			defined(t, formatted(t, d, at), list[:count]...)
			arm(t, d, armed)
			o, err := op.Format(d, at)
			refuses(t, "Format", o, err, api.ErrDown)
			var written []int
			for n := range armed {
				written = append(written, at+n)
			}
			if !slices.Equal(d.Unsynced(), written) {
				t.Fatalf("armed with %d: %v", armed, d.Unsynced())
			}
			o, err = op.Open(d, at)
			refuses(t, "Open", o, err, api.ErrDown)
			// One sector alone is kept: what was defined ahead of it is there still.
			there := count
			if armed > 0 {
				d.Crash(at + armed/2)
				there = min(count, armed/2)
			} else {
				d.Crash()
			}
			o = opened(t, d, at)
			holds(t, o, list[:there]...)
			holds(t, formatted(t, d, at))
			holds(t, opened(t, d, at))
		}
	}
}

func TestFormatThatAnsweredIsInForce(t *testing.T) {
	d := device(t, 16)
	defined(t, formatted(t, d, 0), texts()...)
	arm(t, d, 17)
	o := formatted(t, d, 0)
	if _, err := o.Define("op x() { }"); told(err) != errno(api.ErrDown) {
		t.Error(err)
	}
	d.Crash()
	holds(t, opened(t, d, 0))
	for at := range 16 {
		has(t, d, at, nil)
	}
	defined(t, o, "op x() { }")
	holds(t, opened(t, d, 0), "op x() { }")
}

// P13.1: an Open only reads, so no step is too many for it
func TestOpenOfAnArmedDevice(t *testing.T) {
	list := texts()
	for _, count := range []int{0, 1, 15, 16} {
		for armed := range 3 {
			d := device(t, 16)
			defined(t, formatted(t, d, 0), list[:count]...)
			arm(t, d, armed)
			o := opened(t, d, 0)
			holds(t, o, list[:count]...)
			if count == 16 {
				continue
			}
			_, err := o.Define(list[count])
			if armed < 2 {
				answers(t, "Define", err, api.ErrDown)
				continue
			}
			answers(t, "Define", err, 0)
			holds(t, o, list[:count+1]...)
		}
	}
}

// P13.1: power is asked for ahead of what the sectors have
func TestOpenWithoutPower(t *testing.T) {
	d := device(t, 16)
	for at := range 16 {
		written(t, d, at, bytes.Repeat([]byte{9}, 512))
	}
	o, err := op.Open(d, 0)
	refuses(t, "Open", o, err, api.ErrBox)
	powerless(t, d)
	o, err = op.Open(d, 0)
	refuses(t, "Open", o, err, api.ErrDown)
}
