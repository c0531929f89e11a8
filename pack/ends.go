package pack

import (
	"kist/api"
	"kist/bits"
	"kist/sums"
)

// sink is packed bytes that grow.
type sink struct {
	out []byte
	e   api.Errno // the first error that a layer below told
}

func (s *sink) keep(e api.Errno) {
	if s.e == api.OK {
		s.e = e
	}
}

func (s *sink) add(data []byte, e api.Errno) {
	s.keep(e)
	s.out = append(s.out, data...)
}

func (s *sink) number(n int) { s.add(bits.PutNum(nil, n)) }

// sized adds how many bytes data has ahead of them, for nothing in them tells where they end.
func (s *sink) sized(data []byte, e api.Errno) {
	s.number(len(data))
	s.add(data, e)
}

func (s *sink) sum(data []byte) {
	sum := sums.Crc(data)
	for i := range sumBytes {
		s.out = append(s.out, byte(sum>>(8*i)))
	}
}

// source is packed bytes that are taken from the front on. Once something is amiss nothing is there any more, so that it need be asked only where much hangs on it, and in the end.
type source struct {
	left  []byte
	amiss bool
}

// ask says whether all was well up to here, and is now.
func (s *source) ask(well bool) bool {
	if !well {
		s.left, s.amiss = nil, true
	}
	return !s.amiss
}

// bytes is the next n bytes, still where they were handed in.
func (s *source) bytes(n int) []byte {
	if !s.ask(n <= len(s.left)) {
		return nil
	}
	taken := s.left[:n]
	s.left = s.left[n:]
	return taken
}

func (s *source) one() byte {
	taken := s.bytes(1)
	if len(taken) == 0 {
		return 0
	}
	return taken[0]
}

func (s *source) number() int {
	n, size, e := bits.Num(s.left)
	s.ask(e == api.OK)
	s.bytes(size)
	return n
}

func (s *source) sized() []byte { return s.bytes(s.number()) }

func (s *source) sum() int {
	sum := 0
	for i, b := range s.bytes(sumBytes) {
		sum |= int(b) << (8 * i)
	}
	return sum
}
