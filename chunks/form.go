package chunks

import (
	"slices"

	"kist/api"
)

// Where things stand in the body of a chunk's first block, and how many bytes a number has there.
const (
	lenAt      = 0
	packedAt   = 2
	moreAt     = 4
	numbersAt  = 5
	numberSize = 2
)

// mostMore is how many blocks follow the first one at most.
const mostMore = 2

// roomWith is how many packed bytes go into the first block, if it tells so many more blocks.
func roomWith(more int) int { return api.BodySize - numbersAt - numberSize*more }

// moreFor is how many more blocks so many packed bytes need, as few as may be.
func moreFor(packed int) int {
	more := 0
	for packed > roomWith(more)+more*api.BodySize {
		more++
	}
	return more
}

// written is a chunk's blocks, the first one first: of so many bytes, and the numbers of the others.
func written(many int, packed []byte, more []int) []api.Block {
	body := putNumber(nil, many)
	body = putNumber(body, len(packed))
	body = append(body, byte(len(more)))
	for _, n := range more {
		body = putNumber(body, n)
	}
	at := min(len(packed), roomWith(len(more)))
	out := []api.Block{{Kind: api.KindChunk, Body: append(body, packed[:at]...)}}
	for piece := range slices.Chunk(packed[at:], api.BodySize) {
		out = append(out, api.Block{Kind: api.KindMore, Body: piece})
	}
	return out
}

func putNumber(out []byte, n int) []byte { return append(out, byte(n), byte(n>>8)) }

func numberAt(body []byte, at int) int { return int(body[at]) | int(body[at+1])<<8 }

// head is what a chunk's first block tells.
type head struct {
	many   int    // how many bytes the chunk has
	packed int    // how many it has packed
	more   []int  // the other blocks
	first  []byte // the first of the packed bytes
}

// headOf is what a block tells that is a chunk's first one; false, if it is none.
func headOf(b api.Block) (head, bool) {
	if b.Kind != api.KindChunk || len(b.Body) < numbersAt {
		return head{}, false
	}
	h := head{many: numberAt(b.Body, lenAt), packed: numberAt(b.Body, packedAt)}
	more := int(b.Body[moreAt])
	if more > mostMore || more != moreFor(h.packed) {
		return head{}, false
	}
	at := numbersAt + numberSize*more
	if len(b.Body) != at+min(h.packed, roomWith(more)) {
		return head{}, false
	}
	for i := range more {
		h.more = append(h.more, numberAt(b.Body, numbersAt+numberSize*i))
	}
	h.first = b.Body[at:]
	return h, true
}
