package frame_test

import (
	"bytes"
	"testing"

	"kist/api"
	"kist/frame"
	"kist/sums"
)

func TestOf(t *testing.T) {
	sector := bytes.Repeat([]byte{77}, api.SectorSize+1)
	for length := range sector {
		f := frame.Of(sector[:length])
		if !bytes.Equal(f[:length], sector[:length]) || !bytes.Equal(f[length:], make([]byte, api.SectorSize-length)) {
			t.Errorf("of %d bytes: %v", length, f)
		}
	}
	f := frame.Of(sector)
	clear(sector)
	if f != frame.Of(bytes.Repeat([]byte{77}, api.SectorSize)) {
		t.Error("it shares memory with the sector, or has not its first bytes")
	}
}

func TestSetLaysTheLowestByteFirst(t *testing.T) {
	var f frame.Frame
	f.Set(3, 4, 0x01020304)
	f.Set(7, 2, 0xFFEE)
	f.Set(9, 1, 5)
	if want := []byte{0, 0, 0, 4, 3, 2, 1, 0xEE, 0xFF, 5, 0}; !bytes.Equal(f[:11], want) {
		t.Errorf("the bytes are %v, want %v", f[:11], want)
	}
}

func TestNumberOfSet(t *testing.T) {
	for size, most := range []int{0, 1<<8 - 1, 1<<16 - 1, 1<<24 - 1, 1<<32 - 1} {
		for _, value := range []int{0, most / 3, most - most/256, most} {
			f := frame.Of(bytes.Repeat([]byte{77}, api.SectorSize))
			f.Set(100, size, value)
			if got := f.Number(100, size); got != value {
				t.Errorf("of %d bytes: %d, want %d", size, got, value)
			}
			if f[99] != 77 || f[100+size] != 77 {
				t.Errorf("of %d bytes: others were changed", size)
			}
		}
	}
}

func TestSummed(t *testing.T) {
	for _, b := range []byte{0, 1, 255} {
		f := frame.Of(bytes.Repeat([]byte{b}, api.SectorSize))
		was := f
		s := f.Summed()
		if f != was {
			t.Error("the sector itself was changed")
		}
		if !bytes.Equal(s[:frame.SumAt], f[:frame.SumAt]) || s.Number(frame.SumAt, 4) != sums.Crc(f[:252]) {
			t.Errorf("bytes %d are summed to %v", b, s)
		}
		if s != s.Summed() {
			t.Errorf("bytes %d have another sum once they are summed", b)
		}
	}
}
