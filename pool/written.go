package pool

import "palimpsest/page"

// written is of a page that was written to the device: the least Lsn of the Writes that no sync followed, and how many syncs the device
// had made then.
type written struct {
	lsn   int
	syncs int
}

// clean writes a page out, if it is dirty.
func (p *Pool) clean(f *frame) error {
	if !f.dirty {
		return nil
	}
	// The log ahead of the page: the device must never have what the log couldn't undo.
	if f.now.Lsn >= p.j.Flushed() {
		if err := p.j.Flush(); err != nil {
			return err
		}
	}
	if err := p.d.Write(p.at+f.page, page.Encode(f.now)); err != nil {
		return err
	}
	f.dirty = false
	p.note(f)
	return nil
}

// note keeps in mind that a page was written to the device.
func (p *Pool) note(f *frame) {
	p.forget()
	lsn := f.least
	if w, ok := p.out[f.page]; ok {
		lsn = min(lsn, w.lsn)
	}
	p.out[f.page] = written{lsn: lsn, syncs: p.d.Syncs()}
}

// forget drops the pages that a sync followed. Whoever makes one, the device counts it.
func (p *Pool) forget() {
	for number, w := range p.out {
		if w.syncs != p.d.Syncs() {
			delete(p.out, number)
		}
	}
}

// lsns is the Lsn of each page that is dirty or unsynced.
func (p *Pool) lsns() map[int]int {
	lsns := map[int]int{}
	if p == nil {
		return lsns
	}
	p.forget()
	for number, w := range p.out {
		lsns[number] = w.lsn
	}
	for _, f := range p.frames {
		if !f.dirty {
			continue
		}
		// No sync followed the Writes since an unsynced page was written out.
		if lsn, ok := lsns[f.page]; ok {
			lsns[f.page] = min(lsn, f.least)
		} else {
			lsns[f.page] = f.first
		}
	}
	return lsns
}
