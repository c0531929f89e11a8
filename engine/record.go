package engine

import (
	"bytes"

	"kist/api"
	"kist/bits"
)

// How many bytes the numbers ahead of a record's texts have.
const (
	kindSize    = 1
	versionSize = 4
	numberSize  = 4
)

// recordOf is the record of an operation that changes something.
func recordOf(x api.Op) []byte {
	number, path, to, data := 0, x.Path, "", []byte(nil)
	switch x.Kind {
	case api.OpWrite:
		number, data = x.Off, x.Data
	case api.OpTruncate:
		number = x.Len
	case api.OpRename:
		to = x.To
	case api.OpSnapshot, api.OpClone, api.OpDrop:
		path = ""
	}
	out := lowFirst(nil, x.Kind, kindSize)
	out = lowFirst(out, x.Version, versionSize)
	out = lowFirst(out, number, numberSize)
	for _, text := range [][]byte{[]byte(path), []byte(to), data} {
		out, _ = bits.PutNum(out, len(text)) // no text has more bytes than a short number tells
		out = append(out, text...)
	}
	return out
}

// opOf is the operation of a record; false, if it is none's that changes something.
func opOf(record []byte) (api.Op, bool) {
	r := reader{left: record}
	x := api.Op{Kind: r.number(kindSize), Version: r.number(versionSize)}
	number := r.number(numberSize)
	switch x.Kind {
	case api.OpWrite:
		x.Off = number
	case api.OpTruncate:
		x.Len = number
	}
	x.Path, x.To, x.Data = string(r.text()), string(r.text()), r.text()
	// An operation has one record only: what it has no use for is none, and nothing stands behind.
	if r.short || !changes(x.Kind) || !bytes.Equal(recordOf(x), record) {
		return api.Op{}, false
	}
	return x, true
}

// lowFirst is out with a number behind, in so many bytes, the lowest first.
func lowFirst(out []byte, n, size int) []byte {
	for i := range size {
		out = append(out, byte(n>>(8*i)))
	}
	return out
}

// reader reads a record from its front on.
type reader struct {
	left  []byte
	short bool // something was asked that is not there
}

// take is the next bytes.
func (r *reader) take(many int) []byte {
	if many > len(r.left) {
		r.short = true
		return nil
	}
	data := r.left[:many]
	r.left = r.left[many:]
	return data
}

// number is the next number of so many bytes.
func (r *reader) number(size int) int {
	n := 0
	for i, b := range r.take(size) {
		n |= int(b) << (8 * i)
	}
	return n
}

// text is the next text, ahead of which its length stands.
func (r *reader) text() []byte {
	many, size, e := bits.Num(r.left)
	if e != api.OK {
		r.short = true
		return nil
	}
	r.take(size)
	return r.take(many)
}
