package pool

import (
	"slices"

	"palimpsest/api"
	"palimpsest/page"
)

// frame is a page in memory.
type frame struct {
	page  int
	now   api.Page
	pins  int
	dirty bool
	// first and least are of the Lsns of the Writes since the page was clean. They are one as long as Lsns only rise.
	first int
	least int
}

// change lets the page be another one.
func (f *frame) change(x api.Page) {
	if !f.dirty {
		f.first, f.least = x.Lsn, x.Lsn
	}
	f.least = min(f.least, x.Lsn)
	f.now, f.dirty = x, true
}

func (f *frame) isPinned() bool { return f.pins > 0 }

// has tells whether there is such a page.
func (p *Pool) has(number int) bool {
	return number >= 0 && number < p.Len()
}

// find is the first frame of which something holds, or nil.
func (p *Pool) find(holds func(f *frame) bool) *frame {
	place := slices.IndexFunc(p.frames, holds)
	if place < 0 {
		return nil
	}
	return p.frames[place]
}

// held is the frame of a page, or nil.
func (p *Pool) held(number int) *frame {
	return p.find(func(f *frame) bool { return f.page == number })
}

// drop lets a page go from memory.
func (p *Pool) drop(gone *frame) {
	p.frames = slices.DeleteFunc(p.frames, func(f *frame) bool { return f == gone })
}

// bring is the frame of a page, which is in memory then.
func (p *Pool) bring(number int) (*frame, error) {
	if !p.has(number) {
		return nil, api.ErrRange
	}
	f := p.held(number)
	if f == nil {
		return p.load(number)
	}
	p.drop(f)
	p.frames = append(p.frames, f)
	return f, nil
}

// load brings a page that isn't in memory. The one that makes room for it is dropped only once it is read: a refused call drops none.
func (p *Pool) load(number int) (*frame, error) {
	old, err := p.spare()
	if err != nil {
		return nil, err
	}
	b, err := p.d.Read(p.at + number)
	if err != nil {
		return nil, err
	}
	x, err := page.Decode(b)
	if err != nil {
		return nil, err
	}
	p.drop(old)
	f := &frame{page: number, now: x}
	p.frames = append(p.frames, f)
	return f, nil
}

// spare is the frame that makes room for another page, clean; nil, if there is room: of those that aren't pinned the one that wasn't
// asked for the longest.
func (p *Pool) spare() (*frame, error) {
	if len(p.frames) < p.most {
		return nil, nil
	}
	f := p.find(func(f *frame) bool { return !f.isPinned() })
	if f == nil {
		return nil, api.ErrPool
	}
	if err := p.clean(f); err != nil {
		return nil, err
	}
	return f, nil
}
