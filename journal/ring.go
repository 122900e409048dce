package journal

import (
	"palimpsest/api"
	"palimpsest/disk"
	"palimpsest/wire"
)

// pieceSize is how many bytes of the stream of records one sector of the ring has.
const pieceSize = 470

// ring is sectors in which pieces stand in turn: a new one in place of the oldest one.
type ring struct {
	d       *disk.Device
	from    int
	sectors int
}

// place is the sector of a piece.
func (r *ring) place(piece int) int {
	return r.from + piece%r.sectors
}

// read is a piece's bytes; ErrBox, if its sector hasn't this piece.
func (r *ring) read(piece int) ([]byte, error) {
	sector, err := r.d.Read(r.place(piece))
	if err != nil {
		return nil, err
	}
	in, err := wire.Unbox(sector)
	if err != nil {
		return nil, err
	}
	number, b, err := wire.Take(in)
	if err != nil {
		return nil, err
	}
	// An older piece may stand here still.
	if number != piece || len(b) != pieceSize {
		return nil, api.ErrBox
	}
	return b, nil
}

// write lays a piece that begins with b, and has bytes 0 behind it.
func (r *ring) write(piece int, b []byte) error {
	var whole [pieceSize]byte
	copy(whole[:], b)
	box, err := wire.Box(api.SectorSize, wire.Put(nil, piece), whole[:])
	if err != nil {
		return err
	}
	return r.d.Write(r.place(piece), box)
}
