package disk

import (
	"sync/atomic"

	"palimpsest/api"
)

// meter counts a device's steps, and lets its power go.
type meter struct {
	steps atomic.Int64
	syncs atomic.Int64
	// left is how many steps are left while the meter is armed.
	left  atomic.Int64
	armed bool
	down  bool
}

// step makes a step, unless the power is gone or goes now.
func (m *meter) step() error {
	if m.armed && m.left.Load() == 0 {
		m.down = true
	}
	if m.down {
		return api.ErrDown
	}
	if m.armed {
		m.left.Add(-1)
	}
	m.steps.Add(1)
	return nil
}

// arm lets the power go after n further steps.
func (m *meter) arm(n int) {
	m.armed = true
	m.left.Store(int64(n))
}

// restore brings the power back, for good until the meter is armed again.
func (m *meter) restore() {
	m.armed = false
	m.down = false
}
