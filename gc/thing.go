package gc

import (
	"kist/api"
	"kist/layout"
	"kist/node"
)

// What a block that is come to has to be: a node of a tree, or of a chunk the first block, or another one.
const (
	aNode = iota
	aChunk
	aMore
)

// thing is a block, and what it has to be.
type thing struct {
	block int
	is    int
}

// within is what stands in a thing that has this block.
func (x thing) within(b api.Block) ([]thing, api.Errno) {
	switch x.is {
	case aNode:
		return withinNode(b)
	case aChunk:
		return withinChunk(b)
	}
	if b.Kind != api.KindMore {
		return nil, api.ErrImage
	}
	return nil, api.OK
}

// withinNode is the kids of an inner node, or the chunks of a leaf.
func withinNode(b api.Block) ([]thing, api.Errno) {
	n, e := node.Get(b)
	if e != api.OK {
		return nil, e
	}
	if !n.Leaf {
		return things(n.Kids, aNode), api.OK
	}
	var chunks []int
	for i, key := range n.Keys {
		if key[0] != chunkKey {
			continue
		}
		first, ok := chunkAt(n.Vals[i])
		if !ok {
			return nil, api.ErrImage
		}
		chunks = append(chunks, first)
	}
	return things(chunks, aChunk), api.OK
}

// withinChunk is a chunk's other blocks.
func withinChunk(b api.Block) ([]thing, api.Errno) {
	h, ok := layout.HeadOf(b)
	if !ok {
		return nil, api.ErrImage
	}
	return things(h.More, aMore), api.OK
}

func things(blocks []int, is int) []thing {
	var out []thing
	for _, n := range blocks {
		out = append(out, thing{n, is})
	}
	return out
}

// Where chunks stand in a leaf: at keys that begin so, with values of so many bytes, of which the first two are the first block, the highest byte first.
const (
	chunkKey = 'x'
	valSize  = 4
)

// chunkAt is the first block of the chunk that a value tells; false, if it tells none.
func chunkAt(val string) (int, bool) {
	if len(val) != valSize {
		return 0, false
	}
	return int(val[0])<<8 | int(val[1]), true
}
