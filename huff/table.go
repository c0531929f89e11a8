package huff

import (
	"kist/api"
	"kist/bits"
)

const (
	countBits  = 8 // for how many lengths there are
	lengthBits = 4 // for a length, and for how many zeros there are
	mostZeros  = 1 << lengthBits
)

// PutTable writes lengths.
func PutTable(lengths []int) ([]byte, api.Errno) {
	if !mayBe(lengths) {
		return nil, api.ErrTable
	}
	w := bits.NewWriter()
	w.Put(countBits, len(lengths)-1)
	for len(lengths) > 0 {
		w.Put(lengthBits, lengths[0])
		taken := 1
		if lengths[0] == 0 {
			taken = zerosAhead(lengths)
			w.Put(lengthBits, taken-1)
		}
		lengths = lengths[taken:]
	}
	return w.Bytes(), api.OK
}

// zerosAhead is how many zeros lengths begin with, as far as they can be told at a time.
func zerosAhead(lengths []int) int {
	n := 0
	for n < len(lengths) && n < mostZeros && lengths[n] == 0 {
		n++
	}
	return n
}

// Table reads lengths, and tells how many bytes they have.
func Table(data []byte) ([]int, int, api.Errno) {
	r := bits.NewReader(data)
	lengths, e := takeLengths(r)
	if e != api.OK {
		return nil, 0, e
	}
	if !zerosToByteEnd(r) || !mayBe(lengths) {
		return nil, 0, api.ErrTable
	}
	return lengths, len(data) - r.Left()/byteBits, api.OK
}

func takeLengths(r *bits.Reader) ([]int, api.Errno) {
	less, e := r.Take(countBits)
	if e != api.OK {
		return nil, e
	}
	lengths := make([]int, 0, less+1)
	closed := false // by zeros that would have been told as more, had there been more
	for len(lengths) <= less {
		length, e := r.Take(lengthBits)
		if e != api.OK {
			return nil, e
		}
		if length > 0 {
			lengths = append(lengths, length)
			closed = false
			continue
		}
		zeros, e := takeZeros(r)
		if e != api.OK {
			return nil, e
		}
		if closed || len(lengths)+zeros > less+1 {
			return nil, api.ErrTable
		}
		lengths = append(lengths, make([]int, zeros)...)
		closed = zeros < mostZeros
	}
	return lengths, api.OK
}

func takeZeros(r *bits.Reader) (int, api.Errno) {
	less, e := r.Take(lengthBits)
	if e != api.OK {
		return 0, e
	}
	return less + 1, api.OK
}

// zerosToByteEnd takes what is left of a byte, and says whether it is no more than filling.
func zerosToByteEnd(r *bits.Reader) bool {
	rest, e := r.Take(r.Left() % byteBits)
	return e == api.OK && rest == 0
}
