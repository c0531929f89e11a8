// Package frame is a sector as a value, with the sum of its other bytes behind them: what the layers that write sectors have in common.
package frame

import (
	"kist/api"
	"kist/sums"
)

const sumSize = 4

// SumAt is where the sum stands: all other bytes are ahead of it.
const SumAt = api.SectorSize - sumSize

// Frame is a sector as a value, so that two of them are held against each other at once.
type Frame [api.SectorSize]byte

// Of is the frame of a sector's bytes.
func Of(sector []byte) Frame {
	var f Frame
	copy(f[:], sector)
	return f
}

// Summed is the sector with the sum that its other bytes have.
func (f Frame) Summed() Frame {
	f.Set(SumAt, sumSize, sums.Crc(f[:SumAt]))
	return f
}

// Set lays a number, the lowest byte first.
func (f *Frame) Set(at, size, value int) {
	for i := range size {
		f[at+i] = byte(value >> (8 * i))
	}
}

// Number is the one that Set laid.
func (f *Frame) Number(at, size int) int {
	value := 0
	for i := range size {
		value |= int(f[at+i]) << (8 * i)
	}
	return value
}
