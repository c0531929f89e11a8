package files

import "kist/api"

// What keys begin with: an inode stands behind it.
const (
	nameKey  = 'd' // then a name; there stands an inode
	inodeKey = 'i' // there stands what the inode is
	placeKey = 'x' // then a place; there stands a chunk
)

// What an inode may be.
const (
	kindFile = 1
	kindDir  = 2
)

// How many bytes numbers have.
const (
	inodeSize  = 3
	numberSize = 2             // a size, a place, a block, a length
	headSize   = 1 + inodeSize // of a key: its letter and its inode
)

// key is one of an inode, with what stands behind that.
func key(letter byte, number int, behind ...byte) string {
	out := append([]byte{letter}, highFirst(number, inodeSize)...)
	return string(append(out, behind...))
}

// highFirst is a number in so many bytes, the highest first.
func highFirst(n, size int) string {
	out := make([]byte, size)
	for i := range out {
		out[size-1-i] = byte(n >> (8 * i))
	}
	return string(out)
}

// numberOf is the number that bytes are, the highest first.
func numberOf(bytes string) int {
	n := 0
	for i := range len(bytes) {
		n = n<<8 | int(bytes[i])
	}
	return n
}

// inode is what stands at a path.
type inode struct {
	number int
	dir    bool
	size   int
	leads  string // the key that leads to it
}

// isRoot says whether it is /, to which no key leads.
func (at inode) isRoot() bool { return at.leads == "" }

// val is what its key tells.
func (at inode) val() string {
	kind := kindFile
	if at.dir {
		kind = kindDir
	}
	return highFirst(kind, 1) + highFirst(at.size, numberSize)
}

// chunkKey is the key of its chunk at a place.
func (at inode) chunkKey(place int) string {
	return key(placeKey, at.number, []byte(highFirst(place, numberSize))...)
}

// inodeOf is the inode that is told at a name; false, if none may be told so.
func inodeOf(val string) (int, bool) { return numberOf(val), len(val) == inodeSize }

// chunkOf is the chunk that is told at a place; false, if none may be told so.
func chunkOf(val string) (api.Chunk, bool) {
	if len(val) != 2*numberSize {
		return api.Chunk{}, false
	}
	c := api.Chunk{Block: numberOf(val[:numberSize]), Len: numberOf(val[numberSize:])}
	return c, c.Len >= 1 && c.Len <= api.MaxChunk
}

func chunkVal(c api.Chunk) string {
	return highFirst(c.Block, numberSize) + highFirst(c.Len, numberSize)
}
