package engine

import (
	"cmp"
	"math"
	"slices"

	"kist/alloc"
	"kist/api"
	"kist/cache"
	"kist/chunks"
	"kist/disk"
	"kist/files"
	"kist/journal"
	"kist/super"
	"kist/tree"
)

// Mount is the engine of a disk.
func Mount(d *disk.Disk) (*Engine, api.Errno) {
	s, e := super.Load(d)
	if e != api.OK {
		return nil, e
	}
	g, e := over(d, s)
	if e != api.OK {
		return nil, e
	}
	for _, do := range []func(*Engine) api.Errno{(*Engine).keep, (*Engine).redo, (*Engine).Checkpoint} {
		if e := do(g); e != api.OK {
			return nil, e
		}
	}
	return g, api.OK
}

// over is an engine over a disk, for which nothing is taken yet.
func over(d *disk.Disk, s api.Super) (*Engine, api.Errno) {
	m, e := alloc.New(api.FirstBlock, d.Size())
	if e != api.OK {
		return nil, e
	}
	c, e := cache.New(d, api.CacheRoom)
	if e != api.OK {
		return nil, e
	}
	t, e := tree.New(c, m)
	if e != api.OK {
		return nil, e
	}
	store, e := chunks.New(c, m)
	if e != api.OK {
		return nil, e
	}
	f, e := files.New(t, store)
	if e != api.OK {
		return nil, e
	}
	return &Engine{disk: d, blocks: m, cache: c, tree: t, store: store, files: f, now: s, ahead: map[int][]int{}}, api.OK
}

// keep marks the blocks of what is kept as taken, and lets its chunks be known.
func (g *Engine) keep() api.Errno {
	var all []api.Chunk
	for _, v := range g.now.Versions {
		list, e := g.keepTree(v)
		if e != api.OK {
			return e
		}
		all = append(all, list...)
	}
	// Versions share most of their chunks, and each one is to be read once.
	slices.SortFunc(all, func(a, b api.Chunk) int {
		return cmp.Or(cmp.Compare(a.Block, b.Block), cmp.Compare(a.Len, b.Len))
	})
	for _, c := range slices.Compact(all) {
		if e := g.keepChunk(c); e != api.OK {
			return e
		}
	}
	return api.OK
}

// keepTree marks the blocks of a version's tree, and answers the chunks that stand in it.
func (g *Engine) keepTree(v api.Version) ([]api.Chunk, api.Errno) {
	numbers, e := g.tree.Blocks(v.Root)
	if e != api.OK {
		return nil, e
	}
	g.mark(numbers)
	entries, e := g.tree.Scan(v.Root, "", "", math.MaxInt)
	if e != api.OK {
		return nil, e
	}
	if slices.ContainsFunc(entries, func(x api.Entry) bool { return !mayBeKey(x.Key) }) {
		return nil, api.ErrImage
	}
	return g.files.Chunks(v)
}

// keepChunk marks a chunk's blocks, and lets it be known.
func (g *Engine) keepChunk(c api.Chunk) api.Errno {
	if e := g.store.Know(c); e != api.OK {
		return e
	}
	numbers, e := g.store.Blocks(c)
	if e != api.OK {
		return e
	}
	g.mark(numbers)
	for _, n := range numbers {
		if n < c.Block {
			g.ahead[c.Block] = append(g.ahead[c.Block], n)
		}
	}
	return api.OK
}

// mark marks blocks as taken, of which some may be already: versions share them.
func (g *Engine) mark(numbers []int) {
	for _, n := range numbers {
		g.blocks.Mark(n)
	}
}

// redo does what the journal tells, without telling it there again.
func (g *Engine) redo() api.Errno {
	records, e := journal.Open(g.disk, g.now.Gen)
	if e != api.OK {
		return e
	}
	for _, record := range records {
		x, ok := opOf(record)
		if !ok {
			return api.ErrImage
		}
		if r := g.change(x, func() api.Errno { return api.OK }); r.Code != api.OK {
			return api.ErrImage
		}
	}
	return api.OK
}
