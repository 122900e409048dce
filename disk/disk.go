// Package disk is layer 1: the stand-in for a device of sectors, which loses its power.
package disk

import (
	"slices"

	"palimpsest/api"
)

// sector is the bytes of one sector.
type sector [api.SectorSize]byte

// Device is a device of sectors.
type Device struct {
	meter
	size int
	// now has the sectors as they are. One that was never written isn't there: the map answers bytes 0 for it.
	now map[int]sector
	// synced has, of the sectors that were written since the last sync, what they were at it.
	synced map[int]sector
}

// New is a device whose bytes are all 0.
func New(size int) (*Device, error) {
	if size < 1 || size > api.MaxSectors {
		return nil, api.ErrRange
	}
	return &Device{size: size, now: map[int]sector{}, synced: map[int]sector{}}, nil
}

// has tells whether there is such a sector.
func (d *Device) has(at int) bool {
	return d != nil && at >= 0 && at < d.size
}

// Size is how many sectors there are.
func (d *Device) Size() int {
	if d == nil {
		return 0
	}
	return d.size
}

// Read is a sector's bytes.
func (d *Device) Read(at int) ([]byte, error) {
	if !d.has(at) {
		return nil, api.ErrRange
	}
	if d.down {
		return nil, api.ErrDown
	}
	from := d.now[at]
	out := make([]byte, len(from))
	copy(out, from[:])
	return out, nil
}

// Write writes a sector: the parts' bytes, one behind the other.
func (d *Device) Write(at int, parts ...[]byte) error {
	if !d.has(at) {
		return api.ErrRange
	}
	if !fill(parts) {
		return api.ErrForm
	}
	if err := d.step(); err != nil {
		return err
	}
	// Only the first write behind a sync finds what the sync left.
	if _, written := d.synced[at]; !written {
		d.synced[at] = d.now[at]
	}
	d.now[at] = join(parts)
	return nil
}

// fill tells whether parts are a sector's bytes, just so many.
func fill(parts [][]byte) bool {
	left := api.SectorSize
	for _, part := range parts {
		// To stop here keeps the sum from ever growing beyond an int.
		if len(part) > left {
			return false
		}
		left -= len(part)
	}
	return left == 0
}

// join is a sector of parts that fill it.
func join(parts [][]byte) sector {
	var s sector
	end := 0
	for _, part := range parts {
		end += copy(s[end:], part)
	}
	return s
}

// Sync makes all sectors outlive a crash.
func (d *Device) Sync() error {
	if d == nil {
		return api.ErrDown
	}
	if err := d.step(); err != nil {
		return err
	}
	d.syncs.Add(1)
	clear(d.synced)
	return nil
}

// Unsynced is the sectors that were written since the last sync, rising.
func (d *Device) Unsynced() []int {
	if d == nil {
		return nil
	}
	var out []int
	for at := range d.synced {
		out = append(out, at)
	}
	slices.Sort(out)
	return out
}

// Steps is how many steps were made.
func (d *Device) Steps() int {
	if d == nil {
		return 0
	}
	return int(d.steps.Load())
}

// Syncs is how many of the steps were syncs.
func (d *Device) Syncs() int {
	if d == nil {
		return 0
	}
	return int(d.syncs.Load())
}

// Down tells whether the power is gone.
func (d *Device) Down() bool {
	return d != nil && d.down
}

// Arm lets the power go after n further steps.
func (d *Device) Arm(n int) error {
	if d == nil || n < 0 {
		return api.ErrRange
	}
	d.arm(n)
	return nil
}

// Crash crashes: of the unsynced sectors just those named stay as they are. The power is there again.
func (d *Device) Crash(keep ...int) {
	if d == nil {
		return
	}
	for _, at := range keep {
		delete(d.synced, at)
	}
	for at, was := range d.synced {
		d.now[at] = was
	}
	clear(d.synced)
	d.restore()
}
