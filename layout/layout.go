// Package layout is how a chunk lies in blocks: what the layers that come to chunks have in common.
package layout

import (
	"slices"

	"kist/api"
)

// Where things stand in the body of a chunk's first block, and how many bytes a number has there.
const (
	lenAt      = 0
	packedAt   = 2
	moreAt     = 4
	numbersAt  = 5
	numberSize = 2
)

// mostMore is how many blocks follow the first one at most.
const mostMore = 2

// Head is what a chunk's first block tells.
type Head struct {
	Len    int    // how many bytes the chunk has
	Packed int    // how many it has packed
	More   []int  // the other blocks
	First  []byte // the first of the packed bytes
}

// HeadOf is what a block tells that is a chunk's first one; false, if it is none.
func HeadOf(b api.Block) (Head, bool) {
	if b.Kind != api.KindChunk || len(b.Body) < numbersAt {
		return Head{}, false
	}
	h := Head{Len: numberAt(b.Body, lenAt), Packed: numberAt(b.Body, packedAt)}
	more := int(b.Body[moreAt])
	if h.Len < 1 || h.Len > api.MaxChunk || more > mostMore || more != MoreFor(h.Packed) {
		return Head{}, false
	}
	at := numbersAt + numberSize*more
	if len(b.Body) != at+min(h.Packed, roomWith(more)) {
		return Head{}, false
	}
	for i := range more {
		h.More = append(h.More, numberAt(b.Body, numbersAt+numberSize*i))
	}
	h.First = slices.Clone(b.Body[at:])
	return h, true
}

// MoreFor is how many more blocks so many packed bytes need, as few as may be.
func MoreFor(packed int) int {
	more := 0
	for packed > roomWith(more)+more*api.BodySize {
		more++
	}
	return more
}

// Blocks is a chunk's blocks, the first one first: of so many bytes, and the numbers of the others, as many as MoreFor tells.
func Blocks(many int, packed []byte, more []int) []api.Block {
	body := putNumber(nil, many)
	body = putNumber(body, len(packed))
	body = append(body, byte(len(more)))
	for _, n := range more {
		body = putNumber(body, n)
	}
	at := min(len(packed), roomWith(len(more)))
	out := []api.Block{{Kind: api.KindChunk, Body: append(body, packed[:at]...)}}
	for piece := range slices.Chunk(packed[at:], api.BodySize) {
		out = append(out, api.Block{Kind: api.KindMore, Body: slices.Clone(piece)})
	}
	return out
}

// roomWith is how many packed bytes go into the first block, if it tells so many more blocks.
func roomWith(more int) int { return api.BodySize - numbersAt - numberSize*more }

func putNumber(out []byte, n int) []byte { return append(out, byte(n), byte(n>>8)) }

func numberAt(body []byte, at int) int { return int(body[at]) | int(body[at+1])<<8 }
