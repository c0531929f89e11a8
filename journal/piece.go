package journal

import (
	"kist/api"
	"kist/disk"
	"kist/frame"
)

const letter = 'J'

// Where things stand in a piece's sector, and how many bytes they have.
const (
	letterAt, letterSize = 0, 1
	placeAt, placeSize   = 1, 1
	manyAt, manySize     = 2, 1
	lenAt, lenSize       = 3, 1
	genAt, genSize       = 4, 4
	numberAt, numberSize = 8, 4
	dataAt               = 12
)

// mark tells a piece from all others that journals of unlike generations write: which of many pieces it is, of which record.
type mark struct {
	place  int
	many   int
	gen    int
	number int
}

type piece struct {
	mark
	data []byte
}

// pieceAt is the piece that stands in a sector, and whether it is one: else it is what the sector says, be it so or not.
func pieceAt(d *disk.Disk, at int) (piece, bool) {
	sector, e := d.Read(at)
	f := frame.Of(sector)
	p := pieceOf(f)
	// A piece has one sector only: whatever else stands there, the sum among it, is none of its bytes.
	return p, e == api.OK && p.mayBe() && f == sectorOf(p)
}

// mayBe tells whether a record's bytes, in as few pieces as may be, come to this one.
func (p piece) mayBe() bool {
	least := 1
	switch {
	case p.many == 1:
		least = 0
	case p.place < p.many-1:
		least = api.PieceSize
	}
	return p.place < p.many && len(p.data) >= least && len(p.data) <= api.PieceSize
}

// sectorOf is the sector of a piece that may be.
func sectorOf(p piece) frame.Frame {
	var f frame.Frame
	f.Set(letterAt, letterSize, letter)
	f.Set(placeAt, placeSize, p.place)
	f.Set(manyAt, manySize, p.many)
	f.Set(lenAt, lenSize, len(p.data))
	f.Set(genAt, genSize, p.gen)
	f.Set(numberAt, numberSize, p.number)
	copy(f[dataAt:frame.SumAt], p.data)
	return f.Summed()
}

// pieceOf is what a sector says that it is, be it so or not. A length that may not be is told by as many bytes as there is room for, which may not be either.
func pieceOf(f frame.Frame) piece {
	data := make([]byte, min(f.Number(lenAt, lenSize), frame.SumAt-dataAt))
	copy(data, f[dataAt:frame.SumAt])
	return piece{
		mark: mark{
			place:  f.Number(placeAt, placeSize),
			many:   f.Number(manyAt, manySize),
			gen:    f.Number(genAt, genSize),
			number: f.Number(numberAt, numberSize),
		},
		data: data,
	}
}
