package files

import (
	"cmp"
	"iter"
	"maps"
	"math"
	"slices"

	"kist/api"
	"kist/cut"
)

// Read is some bytes of a file.
func (f *Files) Read(v api.Version, path string, off, n int) ([]byte, api.Errno) {
	if off < 0 || n < 0 {
		return nil, api.ErrArg
	}
	at, list, e := f.file(v.Root, path)
	if e != api.OK {
		return nil, e
	}
	// off and n together may be more than a number can be.
	return f.load(list, off, off+min(n, max(at.size-off, 0)))
}

// Write writes bytes into a file.
func (f *Files) Write(v api.Version, path string, off int, data []byte) (api.Version, api.Errno) {
	switch {
	case off < 0:
		return api.Version{}, api.ErrArg
	case len(data) > api.MaxData || off > api.MaxFile-len(data):
		return api.Version{}, api.ErrBig
	}
	at, list, e := f.file(v.Root, path)
	switch {
	case e != api.OK:
		return api.Version{}, e
	case len(data) == 0:
		return v, api.OK
	}
	all, e := f.first(list, max(at.size, off+len(data)))
	if e != api.OK {
		return api.Version{}, e
	}
	copy(all[off:], data)
	return f.set(v, at, list, all)
}

// Truncate lets a file have so many bytes.
func (f *Files) Truncate(v api.Version, path string, size int) (api.Version, api.Errno) {
	switch {
	case size < 0:
		return api.Version{}, api.ErrArg
	case size > api.MaxFile:
		return api.Version{}, api.ErrBig
	}
	at, list, e := f.file(v.Root, path)
	if e != api.OK {
		return api.Version{}, e
	}
	all, e := f.first(list, size)
	if e != api.OK {
		return api.Version{}, e
	}
	return f.set(v, at, list, all)
}

// Chunks is all chunks of a version.
func (f *Files) Chunks(v api.Version) ([]api.Chunk, api.Errno) {
	entries, e := f.entries(v.Root, placeKey, 0, api.MaxInode, math.MaxInt)
	if e != api.OK {
		return nil, e
	}
	stand := map[api.Chunk]struct{}{}
	for _, entry := range entries {
		c, ok := chunkOf(entry.Val)
		if !ok || len(entry.Key) != headSize+numberSize {
			return nil, api.ErrImage
		}
		stand[c] = struct{}{}
	}
	// Where all is well a block begins one chunk at most.
	return slices.SortedFunc(maps.Keys(stand), func(a, b api.Chunk) int {
		return cmp.Or(cmp.Compare(a.Block, b.Block), cmp.Compare(a.Len, b.Len))
	}), api.OK
}

// file is the file that stands at a path, and its chunks.
func (f *Files) file(root int, path string) (inode, []api.Chunk, api.Errno) {
	at, e := f.at(root, path)
	switch {
	case e != api.OK:
		return inode{}, nil, e
	case at.dir:
		return inode{}, nil, api.ErrDir
	}
	list, e := f.chunksOf(root, at)
	if e != api.OK {
		return inode{}, nil, e
	}
	return at, list, api.OK
}

// chunksOf is a file's chunks, which are to be as many bytes as it has.
func (f *Files) chunksOf(root int, at inode) ([]api.Chunk, api.Errno) {
	entries, e := f.entries(root, placeKey, at.number, at.number, math.MaxInt)
	if e != api.OK {
		return nil, e
	}
	var list []api.Chunk
	size := 0
	for place, entry := range entries {
		c, ok := chunkOf(entry.Val)
		if !ok || entry.Key != at.chunkKey(place) {
			return nil, api.ErrImage
		}
		list = append(list, c)
		size += c.Len
	}
	if size != at.size {
		return nil, api.ErrImage
	}
	return list, api.OK
}

// begins goes through a file's chunks, each with the place where its first byte stands in the file.
func begins(list []api.Chunk) iter.Seq2[int, api.Chunk] {
	return func(yield func(int, api.Chunk) bool) {
		at := 0
		for _, c := range list {
			if !yield(at, c) {
				return
			}
			at += c.Len
		}
	}
}

// load is a file's bytes from a place up to another one; chunks that have none of them are not asked.
func (f *Files) load(list []api.Chunk, off, end int) ([]byte, api.Errno) {
	var out []byte
	for at, c := range begins(list) {
		first, last := max(at, off), min(at+c.Len, end)
		if first >= last {
			continue
		}
		data, e := f.store.Load(c)
		if e != api.OK {
			return nil, e
		}
		out = append(out, data[first-at:last-at]...)
	}
	return out, api.OK
}

// first is a file's first bytes, and bytes 0 behind its own.
func (f *Files) first(list []api.Chunk, size int) ([]byte, api.Errno) {
	all, e := f.load(list, 0, size)
	if e != api.OK {
		return nil, e
	}
	return append(all, make([]byte, size-len(all))...), api.OK
}

// set lets a file have other bytes. Where a chunk stays the tree does.
func (f *Files) set(v api.Version, at inode, was []api.Chunk, data []byte) (api.Version, api.Errno) {
	list, e := f.save(data)
	if e != api.OK {
		return api.Version{}, e
	}
	c := f.change(v)
	for place, chunk := range list {
		if place >= len(was) || was[place] != chunk {
			c.put(at.chunkKey(place), chunkVal(chunk))
		}
	}
	for place := len(list); place < len(was); place++ {
		c.delete(at.chunkKey(place))
	}
	if len(data) != at.size {
		c.put(key(inodeKey, at.number), inode{size: len(data)}.val())
	}
	return c.made()
}

// save is the chunks of bytes.
func (f *Files) save(data []byte) ([]api.Chunk, api.Errno) {
	var list []api.Chunk
	for _, many := range cut.Cut(data) {
		c, _, e := f.store.Save(data[:many])
		if e != api.OK {
			return nil, e
		}
		list = append(list, c)
		data = data[many:]
	}
	return list, api.OK
}
