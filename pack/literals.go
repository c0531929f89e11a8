package pack

import (
	"kist/api"
	"kist/huff"
)

// How literals are told.
const (
	asTheyAre = iota
	asCodes
)

// putLiterals adds literals, of which there is one at least: nothing stands ahead of the first byte that it could be a piece of.
func putLiterals(s *sink, literals []byte) {
	s.number(len(literals))
	codes := codesOf(literals)
	s.keep(codes.e)
	if len(codes.out) < len(literals) {
		s.add([]byte{asCodes}, api.OK)
		s.add(codes.out, api.OK)
		return
	}
	s.add([]byte{asTheyAre}, api.OK)
	s.add(literals, api.OK)
}

// codesOf is what stands behind the byte that tells codes.
func codesOf(literals []byte) *sink {
	var s sink
	var counts [256]int
	for _, b := range literals {
		counts[b]++
	}
	lengths, e := huff.Lengths(counts[:])
	s.keep(e)
	s.add(huff.PutTable(lengths))
	s.sized(huff.Encode(lengths, literals))
	return &s
}

// takeLiterals is the literals of what is n bytes unpacked.
func takeLiterals(s *source, n int) []byte {
	many := s.number()
	if !s.ask(many <= n) {
		return nil
	}
	switch s.one() {
	case asTheyAre:
		return s.bytes(many)
	case asCodes:
		return takeCodes(s, many)
	}
	s.ask(false)
	return nil
}

func takeCodes(s *source, many int) []byte {
	lengths, size, e := huff.Table(s.left)
	s.ask(e == api.OK)
	s.bytes(size)
	literals, e := huff.Decode(lengths, s.sized(), many)
	s.ask(e == api.OK)
	return literals
}
