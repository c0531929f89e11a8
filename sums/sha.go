package sums

import mathbits "math/bits"

const (
	pieceSize = 64 // so many bytes are taken at once
	sizeBytes = 8  // as many tell at the end how many bits there are
	rounds    = 64
)

// digest is the eight words that the pieces are added to.
type digest [8]uint32

func firstWords() digest {
	return digest{
		0x6a09e667, 0xbb67ae85, 0x3c6ef372, 0xa54ff53a,
		0x510e527f, 0x9b05688c, 0x1f83d9ab, 0x5be0cd19,
	}
}

// mixedWords is the words k: the first 32 bits behind the point of the first primes' cube roots.
func mixedWords() [rounds]uint32 {
	return [rounds]uint32{
		0x428a2f98, 0x71374491, 0xb5c0fbcf, 0xe9b5dba5, 0x3956c25b, 0x59f111f1, 0x923f82a4, 0xab1c5ed5,
		0xd807aa98, 0x12835b01, 0x243185be, 0x550c7dc3, 0x72be5d74, 0x80deb1fe, 0x9bdc06a7, 0xc19bf174,
		0xe49b69c1, 0xefbe4786, 0x0fc19dc6, 0x240ca1cc, 0x2de92c6f, 0x4a7484aa, 0x5cb0a9dc, 0x76f988da,
		0x983e5152, 0xa831c66d, 0xb00327c8, 0xbf597fc7, 0xc6e00bf3, 0xd5a79147, 0x06ca6351, 0x14292967,
		0x27b70a85, 0x2e1b2138, 0x4d2c6dfc, 0x53380d13, 0x650a7354, 0x766a0abb, 0x81c2c92e, 0x92722c85,
		0xa2bfe8a1, 0xa81a664b, 0xc24b8b70, 0xc76c51a3, 0xd192e819, 0xd6990624, 0xf40e3585, 0x106aa070,
		0x19a4c116, 0x1e376c08, 0x2748774c, 0x34b0bcb5, 0x391c0cb3, 0x4ed8aa4a, 0x5b9cca4f, 0x682e6ff3,
		0x748f82ee, 0x78a5636f, 0x84c87814, 0x8cc70208, 0x90befffa, 0xa4506ceb, 0xbef9a3f7, 0xc67178f2,
	}
}

// lastPieces is the bytes that fill no piece, closed by the number of all bits. They are laid elsewhere, for behind what was handed in there may be bytes of another hand.
func lastPieces(rest []byte, size int) []byte {
	room := pieceSize
	if len(rest)+1+sizeBytes > pieceSize {
		room = 2 * pieceSize
	}
	out := make([]byte, room)
	copy(out, rest)
	out[len(rest)] = 128
	many := uint64(size) * 8
	for i := range sizeBytes {
		out[room-1-i] = byte(many >> (8 * i))
	}
	return out
}

// takeAll takes bytes that are whole pieces.
func (sum *digest) takeAll(k *[rounds]uint32, data []byte) {
	for ; len(data) > 0; data = data[pieceSize:] {
		w := spread(data)
		sum.mix(k, &w)
	}
}

// spread is the words w of the piece that data begin with.
func spread(data []byte) [rounds]uint32 {
	var w [rounds]uint32
	for i := range 16 {
		b := data[4*i : 4*i+4]
		w[i] = uint32(b[0])<<24 | uint32(b[1])<<16 | uint32(b[2])<<8 | uint32(b[3])
	}
	for i := 16; i < rounds; i++ {
		x, y := w[i-15], w[i-2]
		w[i] = w[i-16] + (turn(x, 7) ^ turn(x, 18) ^ x>>3) + w[i-7] + (turn(y, 17) ^ turn(y, 19) ^ y>>10)
	}
	return w
}

// mix adds a piece, told by its words w.
func (sum *digest) mix(k, w *[rounds]uint32) {
	a, b, c, d, e, f, g, h := sum[0], sum[1], sum[2], sum[3], sum[4], sum[5], sum[6], sum[7]
	for i := range rounds {
		t := h + (turn(e, 6) ^ turn(e, 11) ^ turn(e, 25)) + (e&f ^ ^e&g) + k[i] + w[i]
		u := (turn(a, 2) ^ turn(a, 13) ^ turn(a, 22)) + (a&b ^ a&c ^ b&c)
		h, g, f, e, d, c, b, a = g, f, e, d+t, c, b, a, t+u
	}
	for i, x := range [8]uint32{a, b, c, d, e, f, g, h} {
		sum[i] += x
	}
}

// turn is x with its bits moved n places down, those that fall out coming in at the top.
func turn(x uint32, n int) uint32 { return mathbits.RotateLeft32(x, -n) }

func (sum *digest) bytes() [32]byte {
	var out [32]byte
	for i, x := range sum {
		out[4*i], out[4*i+1], out[4*i+2], out[4*i+3] = byte(x>>24), byte(x>>16), byte(x>>8), byte(x)
	}
	return out
}
