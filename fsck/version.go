package fsck

import (
	"kist/api"
	"kist/names"
)

// What keys begin with: an inode stands behind it.
const (
	nameKey  = 'd' // then a name; there stands an inode
	inodeKey = 'i' // there stands what the inode is
	placeKey = 'x' // then a place; there stands a chunk
)

// How many bytes numbers have.
const (
	inodeSize  = 3
	numberSize = 2             // a size, a place, a block, a length
	headSize   = 1 + inodeSize // of a key: its letter and its inode
)

// What an inode may be.
const (
	aFile = 1
	aDir  = 2
)

// inode is what a version's keys tell of one.
type inode struct {
	up     int // the directory that has a name for it
	kind   int // 0, till its own key was come to
	size   int
	places int   // so many of its chunks were come to
	bytes  int   // so many bytes these have
	last   piece // the last one of them
}

// version is what the tree of one tells. All names come first, then what the inodes are, then their chunks: keys rise.
type version struct {
	look   *look
	next   int
	inodes map[int]*inode
}

// version tells whether a version is as it has to be.
func (l *look) version(x api.Version) bool {
	v := version{look: l, next: x.Next, inodes: map[int]*inode{}}
	w := walk{look: l, at: func(key, val string) bool { return len(key) >= headSize && v.entry(key, val) }}
	return w.from(x.Root) && v.end()
}

// entry goes on with what stands at a key; false, if that may not be.
func (v *version) entry(key, val string) bool {
	number, behind := numberOf(key[1:headSize]), key[headSize:]
	switch key[0] {
	case nameKey:
		return names.Name(behind) && len(val) == inodeSize && v.name(number, numberOf(val))
	case inodeKey:
		return behind == "" && len(val) == 1+numberSize && v.inode(number, int(val[0]), numberOf(val[1:]))
	case placeKey:
		return len(behind) == numberSize && len(val) == 2*numberSize &&
			v.chunk(number, numberOf(behind), api.Chunk{Block: numberOf(val[:numberSize]), Len: numberOf(val[numberSize:])})
	}
	return false
}

// name is one that a directory has for an inode, which may have no other.
func (v *version) name(up, number int) bool {
	if _, twice := v.inodes[number]; twice {
		return false
	}
	v.inodes[number] = &inode{up: up}
	return true
}

// inode is what one is, that has a name.
func (v *version) inode(number, kind, size int) bool {
	x, named := v.inodes[number]
	if !named || number < 1 || number >= v.next {
		return false
	}
	x.kind, x.size = kind, size
	x.last = piece{ends: true, whole: true} // nothing is cut, as long as there are no bytes
	return kind == aFile && size <= api.MaxFile || kind == aDir && size == 0
}

// chunk is the next one of a file.
func (v *version) chunk(number, place int, c api.Chunk) bool {
	x, named := v.inodes[number]
	if !named || x.kind != aFile || place != x.places || !x.last.ends {
		return false
	}
	p, ok := v.look.piece(c)
	x.places, x.bytes, x.last = x.places+1, x.bytes+c.Len, p
	return ok
}

// end tells whether all inodes are as they have to be, and counts them.
func (v *version) end() bool {
	for _, x := range v.inodes {
		if !v.isBelow(x) {
			return false
		}
		switch x.kind {
		case aDir:
			v.look.dirs++
		case aFile:
			v.look.files++
		default:
			return false
		}
		if x.bytes != x.size || !x.last.whole {
			return false
		}
	}
	return true
}

// isBelow tells whether an inode is below /, and not too deep.
func (v *version) isBelow(x *inode) bool {
	for range api.MaxDepth {
		if x.up == 0 {
			return true
		}
		up, named := v.inodes[x.up]
		if !named || up.kind != aDir {
			return false
		}
		x = up
	}
	return false
}

// numberOf is the number that bytes are, the highest first.
func numberOf(bytes string) int {
	n := 0
	for i := range len(bytes) {
		n = n<<8 | int(bytes[i])
	}
	return n
}
