package fsck

import (
	"kist/api"
	"kist/cut"
)

// piece is how the bytes of a chunk are cut. Each chunk begins with the mark 0, so that no other one has a say in that: it is asked of each chunk, not of each file.
type piece struct {
	ends  bool // whether they are one chunk, if others follow
	whole bool // whether they are, if none does
}

// piece is that of a chunk; false, if it can't be loaded.
func (l *look) piece(c api.Chunk) (piece, bool) {
	if p, is := l.pieces[c]; is {
		return p, true
	}
	data, e := l.store.Load(c)
	if e != api.OK {
		return piece{}, false
	}
	numbers, e := l.store.Blocks(c)
	if e != api.OK {
		return piece{}, false
	}
	for _, n := range numbers {
		l.comeTo(n)
	}
	p := piece{
		ends:  cut.Cut(append(data, 0))[0] == len(data),
		whole: cut.Cut(data)[0] == len(data),
	}
	l.pieces[c] = p
	return p, true
}
