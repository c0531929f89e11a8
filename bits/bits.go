// Package bits is layer 1: bits in bytes, forward and backward, and short numbers; see shared/doc/01-bits.md.
package bits

import (
	mathbits "math/bits"

	"kist/api"
)

const (
	byteBits = 8
	mostBits = 32 // that are put or taken at once
)

// Writer is a row of bits that grows.
type Writer struct {
	row  []byte
	size int // in bits
}

// NewWriter is an empty one.
func NewWriter() *Writer { return &Writer{} }

// Put adds the n lowest bits of value, the lowest first.
func (w *Writer) Put(n, value int) api.Errno {
	if n < 0 || n > mostBits || value < 0 || value>>n != 0 {
		return api.ErrArg
	}
	for i := range n {
		w.add(byte(value >> i & 1))
	}
	return api.OK
}

// Len is how many bits there are.
func (w *Writer) Len() int { return w.size }

// Bytes is the row.
func (w *Writer) Bytes() []byte { return fresh(w.row) }

// Marked is the row with a mark behind.
func (w *Writer) Marked() []byte {
	marked := Writer{row: fresh(w.row), size: w.size}
	marked.add(1)
	return marked.row
}

func (w *Writer) add(bit byte) {
	if w.size%byteBits == 0 {
		w.row = append(w.row, 0)
	}
	w.row[w.size/byteBits] |= bit << (w.size % byteBits)
	w.size++
}

// Reader takes bits from the first on.
type Reader struct {
	row []byte
	at  int // the bit that comes next
}

// NewReader is one at the first bit.
func NewReader(data []byte) *Reader { return &Reader{row: fresh(data)} }

// Take takes the next n bits.
func (r *Reader) Take(n int) (int, api.Errno) {
	if e := mayTake(n, r.Left()); e != api.OK {
		return 0, e
	}
	value := number(r.row, r.at, n)
	r.at += n
	return value, api.OK
}

// Left is how many are left.
func (r *Reader) Left() int { return byteBits*len(r.row) - r.at }

// Back takes bits from the last on.
type Back struct {
	row  []byte
	left int // the bits ahead of this place are not taken yet
}

// NewBack is one ahead of the mark.
func NewBack(data []byte) (*Back, api.Errno) {
	last := len(data) - 1
	if last < 0 || data[last] == 0 {
		return nil, api.ErrBits
	}
	mark := byteBits*last + mathbits.Len8(data[last]) - 1
	return &Back{row: fresh(data), left: mark}, api.OK
}

// Take takes the last n bits that are left.
func (b *Back) Take(n int) (int, api.Errno) {
	if e := mayTake(n, b.left); e != api.OK {
		return 0, e
	}
	b.left -= n
	return number(b.row, b.left, n), api.OK
}

// Left is how many are left.
func (b *Back) Left() int { return b.left }

func mayTake(n, left int) api.Errno {
	if n < 0 || n > mostBits {
		return api.ErrArg
	}
	if n > left {
		return api.ErrBits
	}
	return api.OK
}

// number is the one whose n bits stand in row from bit at on, the lowest first.
func number(row []byte, at, n int) int {
	value := 0
	for i := range n {
		place := at + i
		bit := row[place/byteBits] >> (place % byteBits) & 1
		value |= int(bit) << i
	}
	return value
}

// fresh is a copy, for nothing that is handed in may be kept, and nothing that is kept may be handed out.
func fresh(data []byte) []byte { return append([]byte(nil), data...) }
