package fsck_test

import (
	"iter"
	"maps"
	"slices"
	"strings"
	"testing"

	"kist/alloc"
	"kist/api"
	"kist/block"
	"kist/cache"
	"kist/chunks"
	"kist/cut"
	"kist/disk"
	"kist/engine"
	"kist/fsck"
	"kist/journal"
	"kist/node"
	"kist/super"
)

// image is a disk that is made by hand.
type image struct {
	t    *testing.T
	d    *disk.Disk
	s    api.Super
	next int // the next block for a node
	c    *cache.Cache
	all  *chunks.Store
}

// newImage is one with a version that has nothing. Nodes are laid from block 50 on, chunks behind the first half.
func newImage(t *testing.T, sectors int) *image {
	t.Helper()
	d, e := disk.New(sectors)
	if e != api.OK {
		t.Fatal(e)
	}
	c, _ := cache.New(d, 1024)
	m, _ := alloc.New(sectors/2+25, sectors)
	all, e := chunks.New(c, m)
	if e != api.OK {
		t.Fatal(e)
	}
	if e := engine.Format(d); e != api.OK {
		t.Fatal(e)
	}
	s := api.Super{Gen: 7, Sectors: sectors, Next: 9, Versions: []api.Version{{ID: 1, Next: 100}}}
	return &image{t: t, d: d, s: s, next: api.FirstBlock, c: c, all: all}
}

// chunk is one of these bytes.
func (x *image) chunk(data string) api.Chunk {
	x.t.Helper()
	c, _, e := x.all.Save([]byte(data))
	if e != api.OK {
		x.t.Fatal(e)
	}
	return c
}

// lay lays a node into the next block.
func (x *image) lay(n node.Node) int {
	x.t.Helper()
	b, e := node.Put(n)
	if e != api.OK {
		x.t.Fatalf("%v may not be", n)
	}
	return x.layBlock(b)
}

func (x *image) layBlock(b api.Block) int {
	x.t.Helper()
	number := x.next
	x.next++
	x.layAt(number, b)
	return number
}

func (x *image) layAt(number int, b api.Block) {
	x.t.Helper()
	if e := x.c.Put(number, b); e != api.OK {
		x.t.Fatal(e)
	}
}

// disk is the disk as it is then.
func (x *image) disk() *disk.Disk {
	x.t.Helper()
	x.c.Flush()
	if e := super.Save(x.d, x.s); e != api.OK {
		x.t.Fatal(e)
	}
	return x.d.Copy()
}

// tale is what stands at the keys of a tree.
type tale map[string]string

// root is that of a tree with as few nodes as all needs.
func (x *image) root(all tale) int {
	x.t.Helper()
	var keys, vals []string
	for _, key := range slices.Sorted(maps.Keys(all)) {
		keys, vals = append(keys, key), append(vals, all[key])
	}
	if len(keys) == 0 {
		return 0
	}
	nodes := parted(keys, func(key string) int { return 2 + len(key) + len(all[key]) })
	var firsts []string
	var kids []int
	for _, here := range nodes {
		firsts = append(firsts, here[0])
		kids = append(kids, x.lay(node.Node{Leaf: true, Keys: here, Vals: vals[:len(here)]}))
		vals = vals[len(here):]
	}
	for len(kids) > 1 {
		nodes = parted(firsts, func(key string) int { return 3 + len(key) })
		firsts = nil
		var above []int
		for _, here := range nodes {
			firsts = append(firsts, here[0])
			above = append(above, x.lay(node.Node{Keys: here, Kids: kids[:len(here)]}))
			kids = kids[len(here):]
		}
		kids = above
	}
	return kids[0]
}

// parted is keys in as few parts as may be, each of which goes into a node.
func parted(keys []string, size func(key string) int) [][]string {
	out := [][]string{nil}
	full := 1
	for _, key := range keys {
		if full+size(key) > api.BodySize {
			out, full = append(out, nil), 1
		}
		out[len(out)-1] = append(out[len(out)-1], key)
		full += size(key)
	}
	return out
}

func high(n, size int) string {
	out := make([]byte, size)
	for i := range out {
		out[size-1-i] = byte(n >> (8 * i))
	}
	return string(out)
}

func nameAt(up int, name string) string { return "d" + high(up, 3) + name }
func inodeAt(inode int) string          { return "i" + high(inode, 3) }
func placeAt(inode, place int) string   { return "x" + high(inode, 3) + high(place, 2) }
func number(inode int) string           { return high(inode, 3) }
func isFile(size int) string            { return "\x01" + high(size, 2) }
func isDir() string                     { return "\x02\x00\x00" }
func at(c api.Chunk) string             { return high(c.Block, 2) + high(c.Len, 2) }
func (a tale) with(other tale) tale     { out := maps.Clone(a); maps.Copy(out, other); return out }
func (a tale) but(key string) tale      { out := maps.Clone(a); delete(out, key); return out }
func (a tale) file(n int, name string, size int) tale {
	return a.with(tale{nameAt(0, name): number(n), inodeAt(n): isFile(size)})
}

// put puts a file's bytes into a tale, by chunks of these.
func (x *image) put(a tale, n int, name string, pieces ...string) tale {
	out := a.file(n, name, len(strings.Join(pieces, "")))
	for place, data := range pieces {
		out[placeAt(n, place)] = at(x.chunk(data))
	}
	return out
}

// pieces is bytes as they are cut.
func pieces(data string) []string {
	var out []string
	for _, n := range cut.Cut([]byte(data)) {
		out = append(out, data[:n])
		data = data[n:]
	}
	return out
}

// uncut is bytes that are one chunk, of three blocks.
func uncut(t *testing.T) string {
	t.Helper()
	for seed := range int64(100) {
		if data := noise(seed, 500); len(pieces(data)) == 1 {
			return data
		}
	}
	t.Fatal("all bytes are cut")
	return ""
}

// base is a tale of four directories in one another, two files and one of many chunks.
func (im *image) base() tale {
	a := tale{
		nameAt(0, "a"): number(1), inodeAt(1): isDir(),
		nameAt(1, "b"): number(2), inodeAt(2): isDir(),
		nameAt(2, "c"): number(3), inodeAt(3): isDir(),
		nameAt(0, "d"): number(8), inodeAt(8): isDir(),
		nameAt(3, "e"): number(4), inodeAt(4): isFile(0),
	}
	a = im.put(a, 5, "f", "abc")
	return im.put(a, 6, "g", pieces(noise(1, 2000))...)
}

// tells wants a tale to be refused, or not.
func tells(t *testing.T, about any, is bool, tell func(im *image) tale) {
	t.Helper()
	im := newImage(t, 300)
	a := tell(im)
	im.s.Versions[0].Root = im.root(a)
	disk := im.disk()
	if !is {
		isRefused(t, disk, about)
		return
	}
	r := fsck.Report{Versions: 1, Blocks: len(blocksOf(t, disk))}
	for key, val := range a {
		switch {
		case key[0] == 'i' && val == isDir():
			r.Dirs++
		case key[0] == 'i':
			r.Files++
		}
	}
	if got, e := fsck.Check(disk); got != r || e != api.OK {
		t.Fatalf("%q: Check() = %v, %v, want %v", about, got, e, r)
	}
	told, _ := mounted(t, disk).told()
	if told != im.tale(a) {
		t.Fatalf("%q: told are %s, want %s", about, told, im.tale(a))
	}
}

// P21.1: the whole of which the tests below change one thing.
func TestBase(t *testing.T) {
	tells(t, "base", true, (*image).base)
	tells(t, "nothing", true, func(*image) tale { return tale{} })
}

// one is a case of a tale that has another entry than the base.
type one struct {
	key, val string
	is       bool
}

func tellsEach(t *testing.T, all []one) {
	t.Helper()
	for _, c := range all {
		tells(t, c, c.is, func(im *image) tale { return im.base().with(tale{c.key: c.val}) })
	}
}

// P21.1, 2: keys of other forms, in a tree that has what they would need.
func TestKeys(t *testing.T) {
	long := strings.Repeat("n", 17)
	for _, key := range []string{
		"a", "z", "\x00", "\xff", "d", "i", "x", "D\x00\x00\x00f", "c\x00\x00\x00f", "e\x00\x00\x00f", "I\x00\x00\x07", "h\x00\x00\x07", "j\x00\x00\x07", "w\x00\x00\x06\x00\x09", "y\x00\x00\x06\x00\x09",
		"d\x00", "d\x00\x00", nameAt(0, ""), nameAt(0, "."), nameAt(0, ".."), nameAt(0, "a/b"), nameAt(0, "/"), nameAt(0, "a b"), nameAt(0, "\x7f"), nameAt(0, "\x20"), nameAt(0, "\xff"), nameAt(0, "é"), nameAt(0, long), nameAt(0, "h\x00"),
		"i\x00", "i\x00\x00", inodeAt(7) + "\x00", inodeAt(7) + "f",
		"x\x00", "x\x00\x00", "x\x00\x00\x05", "x\x00\x00\x05\x00", placeAt(5, 1) + "\x00",
	} {
		for _, val := range []string{"", number(7), isFile(0), isDir(), "\x00\x00\x00\x00"} {
			tells(t, key, false, func(im *image) tale { return im.base().with(tale{key: val}) })
		}
		// The inode 7 has all but a key that is one.
		tells(t, key, false, func(im *image) tale { return im.base().with(tale{key: number(7), inodeAt(7): isFile(0)}) })
	}
	for _, name := range []string{"h", "!", "~", "...", ".h", "h.", long[1:]} {
		tells(t, name, true, func(im *image) tale { return im.base().file(7, name, 0) })
	}
}

// P21.1, 2: values of other lengths.
func TestValues(t *testing.T) {
	for _, key := range []string{nameAt(3, "e"), nameAt(0, "a"), nameAt(2, "c"), inodeAt(1), inodeAt(4), inodeAt(5), inodeAt(6), placeAt(5, 0), placeAt(6, 0), placeAt(6, 2)} {
		tells(t, key, false, func(im *image) tale { a := im.base(); return a.with(tale{key: ""}) })
		tells(t, key, false, func(im *image) tale { a := im.base(); return a.with(tale{key: a[key][1:]}) })
		tells(t, key, false, func(im *image) tale { a := im.base(); return a.with(tale{key: a[key][:len(a[key])-1]}) })
		tells(t, key, false, func(im *image) tale { a := im.base(); return a.with(tale{key: a[key] + "\x00"}) })
		tells(t, key, false, func(im *image) tale { a := im.base(); return a.with(tale{key: "\x00" + a[key]}) })
	}
}

// P21.1, 3: what stands at an inode.
func TestInodes(t *testing.T) {
	tellsEach(t, []one{
		{inodeAt(4), isFile(0), true},
		{inodeAt(4), "\x00\x00\x00", false},
		{inodeAt(4), "\x03\x00\x00", false},
		{inodeAt(4), "\x81\x00\x00", false},
		{inodeAt(4), "\xff\x00\x00", false},
		{inodeAt(4), isFile(1), false},
		{inodeAt(8), isDir(), true},
		{inodeAt(8), isFile(0), true}, // an empty directory may as well be a file
		{inodeAt(8), "\x02\x00\x01", false},
		{inodeAt(8), "\x02\x01\x00", false},
		{inodeAt(8), "\x00\x00\x00", false},
		{inodeAt(8), "\x03\x00\x00", false},
		{inodeAt(4), isDir(), true},
		{inodeAt(5), isFile(2), false},
		{inodeAt(5), isFile(4), false},
		{inodeAt(5), isFile(0), false},
		{inodeAt(5), isDir(), false},
		{inodeAt(5), "\x02\x00\x03", false},
		{inodeAt(3), isFile(0), false},
		{inodeAt(0), isDir(), false},
		{inodeAt(0), isFile(0), false},
		{inodeAt(7), isFile(0), false}, // no name has it
		{inodeAt(7), isDir(), false},
		{inodeAt(99), isDir(), false},
	})
	for inode, is := range map[int]bool{1: true, 98: true, 99: true, 100: false, 101: false, 255: false, 256: false, 65536: false, 1<<24 - 1: false} {
		tells(t, inode, is, func(im *image) tale { return tale{}.file(inode, "f", 0) })
		tells(t, inode, is, func(im *image) tale { return tale{nameAt(0, "d"): number(inode), inodeAt(inode): isDir()} })
	}
	tells(t, "inode 0", false, func(im *image) tale { return tale{nameAt(0, "d"): number(0)} })
	tells(t, "inode 0", false, func(im *image) tale { return tale{nameAt(0, "d"): number(0), inodeAt(0): isDir()} })
	for _, next := range []int{1 << 24, 1<<24 - 1} {
		tells(t, next, next == 1<<24, func(im *image) tale {
			im.s.Versions[0].Next = next
			return im.put(tale{}, 1<<24-1, "f", "abc").with(tale{nameAt(0, "d"): number(0xabcdef), inodeAt(0xabcdef): isDir(), nameAt(0xabcdef, "e"): number(1), inodeAt(1): isFile(0)})
		})
	}
	tells(t, "Next 1", false, func(im *image) tale { im.s.Versions[0].Next = 1; return tale{}.file(1, "f", 0) })
	tells(t, "Next 1", true, func(im *image) tale { im.s.Versions[0].Next = 1; return tale{} })
}

// P21.1, 3: just one name has an inode.
func TestNames(t *testing.T) {
	tellsEach(t, []one{
		{nameAt(0, "h"), number(4), false},
		{nameAt(3, "h"), number(4), false},
		{nameAt(0, "h"), number(1), false},
		{nameAt(0, "h"), number(6), false},
		{nameAt(8, "a"), number(1), false},
	})
	for _, key := range []string{nameAt(0, "a"), nameAt(1, "b"), nameAt(3, "e"), nameAt(0, "f"), nameAt(0, "g"), inodeAt(1), inodeAt(3), inodeAt(4), inodeAt(5), inodeAt(6), inodeAt(8)} {
		tells(t, key, false, func(im *image) tale { return im.base().but(key) })
	}
	tells(t, "an inode the less", true, func(im *image) tale { return im.base().but(nameAt(0, "d")).but(inodeAt(8)) })
	tells(t, "an inode the less", true, func(im *image) tale { return im.base().but(nameAt(3, "e")).but(inodeAt(4)) })
}

// P21.1, 4: what a name stands in, and what it has.
func TestDirectories(t *testing.T) {
	all := []one{{nameAt(0, "h"), number(7), false}, {nameAt(8, "h"), number(9), false}, {nameAt(0, "h"), number(0), false}, {nameAt(0, "h"), number(0xffffff), false}}
	tellsEach(t, all)
	for up, is := range map[int]bool{0: true, 1: true, 2: true, 3: true, 8: true, 4: false, 5: false, 6: false, 7: false, 9: false, 99: false, 256: false, 1<<24 - 1: false} {
		tells(t, up, is, func(im *image) tale { return im.base().with(tale{nameAt(up, "h"): number(7), inodeAt(7): isFile(0)}) })
		if up != 7 {
			tells(t, up, is, func(im *image) tale { return im.base().with(tale{nameAt(up, "h"): number(7), inodeAt(7): isDir()}) })
		}
	}
	// Directories that lead round, and nowhere.
	tells(t, "itself", false, func(im *image) tale { return im.base().with(tale{nameAt(7, "h"): number(7), inodeAt(7): isDir()}) })
	for round := 2; round <= 8; round++ {
		tells(t, round, false, func(im *image) tale {
			a := im.base()
			for n := range round {
				a = a.with(tale{nameAt(20+n, "h"): number(20 + (n+1)%round), inodeAt(20 + n): isDir()})
			}
			return a
		})
	}
}

// P21.1, 4: at most six steps to 0.
func TestDepth(t *testing.T) {
	for depth := 1; depth <= 20; depth++ {
		for kind, what := range []string{isDir(), isFile(0)} {
			for _, turned := range []bool{false, true} {
				tells(t, depth, depth <= 6, func(im *image) tale {
					a, inode := tale{}, func(n int) int {
						if turned && n > 0 {
							return 60 - n
						}
						return n
					}
					for n := range depth {
						a = a.with(tale{nameAt(inode(n), "d"): number(inode(n + 1)), inodeAt(inode(n + 1)): isDir()})
					}
					if kind >= 0 {
						a[inodeAt(inode(depth))] = what
					}
					return a
				})
			}
		}
	}
}

// P21.1, 5: whose chunks there are.
func TestWhoseChunks(t *testing.T) {
	for inode, is := range map[int]bool{4: true, 0: false, 1: false, 3: false, 7: false, 8: false, 99: false, 100: false, 1<<24 - 1: false} {
		tells(t, inode, is, func(im *image) tale {
			a := im.base()
			if is {
				a[inodeAt(inode)] = isFile(3)
			}
			return a.with(tale{placeAt(inode, 0): a[placeAt(5, 0)]})
		})
	}
}

// P21.1, 5: places are 0, 1 and so on.
func TestPlaces(t *testing.T) {
	for _, place := range []int{1, 2, 255, 256, 65535} {
		tells(t, place, false, func(im *image) tale {
			a := im.base()
			return a.but(placeAt(5, 0)).with(tale{placeAt(5, place): a[placeAt(5, 0)]})
		})
		tells(t, place, false, func(im *image) tale {
			a := im.base()
			return a.with(tale{placeAt(6, place): a[placeAt(6, 0)], placeAt(6, 65535): a[placeAt(6, 0)]})
		})
	}
	many := len(pieces(noise(1, 2000)))
	if many < 4 {
		t.Fatal(many)
	}
	for place := range many {
		tells(t, place, false, func(im *image) tale { return im.base().but(placeAt(6, place)) })
		// The places behind it, one less each: too few bytes then; or as many as there are, cut elsewhere, perhaps.
		for _, fits := range []bool{false, true} {
			tells(t, place, fits && place == many-1, func(im *image) tale {
				a := im.base()
				left := 2000 - len(pieces(noise(1, 2000))[place])
				for n := place; n < many-1; n++ {
					a[placeAt(6, n)] = a[placeAt(6, n+1)]
				}
				if fits {
					a[inodeAt(6)] = isFile(left)
				}
				delete(a, placeAt(6, many-1))
				if fits && place < many-1 {
					a[placeAt(6, many-1)] = at(im.chunk("more"))
				}
				return a
			})
		}
	}
}

// P21.1, 5: the chunks' lengths are those by which the bytes are cut.
func TestCut(t *testing.T) {
	data := noise(1, 2000)
	whole := pieces(data)
	of := func(is bool, pieces ...string) {
		t.Helper()
		tells(t, len(pieces), is, func(im *image) tale { return im.put(im.base(), 7, "h", pieces...) })
	}
	of(true, whole...)
	of(true)
	of(true, "a")
	of(false, "a", "b")
	of(false, data[:100], data[100:110])
	merged := 0
	for n := range whole {
		if len(whole[n]) > 64 {
			two := slices.Replace(slices.Clone(whole), n, n+1, whole[n][:64], whole[n][64:])
			of(false, two...)
		}
		two := slices.Replace(slices.Clone(whole), n, n+1, whole[n][:len(whole[n])-1], whole[n][len(whole[n])-1:])
		of(false, two...)
		if n > 0 && len(whole[n-1])+len(whole[n]) <= 512 {
			of(false, slices.Replace(slices.Clone(whole), n-1, n+1, whole[n-1]+whole[n])...)
			of(false, append(slices.Clone(whole[:n-1]), whole[n-1]+whole[n])...) // the last one
			of(false, whole[n-1]+whole[n])
			merged++
		}
		of(true, whole[:n]...)
		of(true, whole[n:]...)
		of(true, append(slices.Clone(whole[:n]), whole[n][:1])...)
		of(true, append(slices.Clone(whole[:n]), whole[n][:len(whole[n])-1])...)
	}
	if merged == 0 {
		t.Fatal("no two chunks are 512 bytes together")
	}
	// Chunks that end at 512 bytes, and some that are less.
	for _, many := range []int{511, 512, 513, 1023, 1024, 1025} {
		noughts := strings.Repeat("\x00", many)
		of(true, pieces(noughts)...)
		for _, each := range []int{1, 63, 64, 256, 510, 511} {
			if each < many {
				of(false, slices.Collect(inPieces(noughts, each))...)
			}
		}
	}
}

// inPieces is bytes in pieces of so many each.
func inPieces(data string, each int) iter.Seq[string] {
	return func(yield func(string) bool) {
		for at := 0; at < len(data) && yield(data[at:min(at+each, len(data))]); at += each {
		}
	}
}

// P21.1, 3 and 5: a file has 8192 bytes at most.
func TestGreatFiles(t *testing.T) {
	for _, size := range []int{8191, 8192, 8193, 8200, 65535} {
		data := strings.Repeat("\x00", size)
		tells(t, size, size <= 8192, func(im *image) tale { return im.put(im.base(), 7, "h", pieces(data)...) })
		tells(t, size, false, func(im *image) tale {
			return im.put(im.base(), 7, "h", pieces(data)...).with(tale{inodeAt(7): isFile(8190)})
		})
	}
	// 65536 bytes more are the same in two bytes of size.
	tells(t, "65536", false, func(im *image) tale {
		return im.put(im.base(), 7, "h", pieces(strings.Repeat("\x00", 65536+3))...).with(tale{inodeAt(7): isFile(3)})
	})
}

// P21.1, 5: at each place stands a chunk that can be loaded.
func TestChunksThatAreNone(t *testing.T) {
	data := uncut(t)
	var c api.Chunk
	var of []int
	make := func(im *image) tale {
		a := im.put(im.base(), 7, "h", data)
		c = im.chunk(data)
		of, _ = im.all.Blocks(c)
		return a
	}
	tells(t, "as it is", true, make)
	if len(of) != 3 {
		t.Fatal(of)
	}
	for about, val := range map[string]func(im *image) api.Chunk{
		"Len less":          func(*image) api.Chunk { return api.Chunk{Block: c.Block, Len: c.Len - 1} },
		"Len more":          func(*image) api.Chunk { return api.Chunk{Block: c.Block, Len: c.Len + 1} },
		"Len 0":             func(*image) api.Chunk { return api.Chunk{Block: c.Block} },
		"Len 513":           func(*image) api.Chunk { return api.Chunk{Block: c.Block, Len: 513} },
		"another block":     func(*image) api.Chunk { return api.Chunk{Block: of[1], Len: c.Len} },
		"a node":            func(*image) api.Chunk { return api.Chunk{Block: 50, Len: c.Len} },
		"no block, 0":       func(*image) api.Chunk { return api.Chunk{Len: c.Len} },
		"no block, 49":      func(*image) api.Chunk { return api.Chunk{Block: 49, Len: c.Len} },
		"no block, 300":     func(*image) api.Chunk { return api.Chunk{Block: 300, Len: c.Len} },
		"no block, 65535":   func(*image) api.Chunk { return api.Chunk{Block: 65535, Len: c.Len} },
		"nothing there":     func(*image) api.Chunk { return api.Chunk{Block: 299, Len: c.Len} },
		"another one's Len": func(im *image) api.Chunk { return api.Chunk{Block: im.chunk("abc").Block, Len: c.Len} },
	} {
		tells(t, about, false, func(im *image) tale { a := make(im); return a.with(tale{placeAt(7, 0): at(val(im))}) })
		tells(t, about, false, func(im *image) tale {
			a := make(im)
			other := val(im)
			return a.with(tale{placeAt(7, 0): at(other), inodeAt(7): isFile(other.Len)})
		})
	}
	// The blocks themselves.
	for about, spoil := range map[string]func(im *image, first api.Block){
		"packed otherwise": func(im *image, b api.Block) { b.Body[30] ^= 1; im.layAt(of[0], b) },
		"Len":              func(im *image, b api.Block) { b.Body[0] ^= 1; im.layAt(of[0], b) },
		"packed less":      func(im *image, b api.Block) { b.Body[2]--; im.layAt(of[0], b) },
		"more":             func(im *image, b api.Block) { b.Body[4]--; im.layAt(of[0], b) },
		"twice":            func(im *image, b api.Block) { b.Body[7] = b.Body[5]; im.layAt(of[0], b) },
		"the wrong kind":   func(im *image, b api.Block) { b.Kind = api.KindMore; im.layAt(of[0], b) },
		"short":            func(im *image, b api.Block) { b.Body = b.Body[:239]; im.layAt(of[0], b) },
		"no other":         func(im *image, b api.Block) { im.layAt(of[1], api.Block{Kind: api.KindMore}) },
		"another":          func(im *image, b api.Block) { im.layAt(of[2], b) },
		"other bytes":      func(im *image, b api.Block) { m, _ := im.c.Get(of[1]); m.Body[100] ^= 1; im.layAt(of[1], m) },
	} {
		im := newImage(t, 300)
		im.s.Versions[0].Root = im.root(make(im))
		b, _ := im.c.Get(of[0])
		spoil(im, b)
		d := im.disk()
		got, e := im.all.Load(c)
		is := e == api.OK && len(pieces(string(got))) == 1
		if e == api.OK && string(got) == data {
			t.Errorf("%s: the chunk is whole", about)
		}
		if r, e := fsck.Check(d); (e == api.OK) != is {
			t.Errorf("%s: Check() = %v, %v; want %v", about, r, e, is)
		}
	}
}

// P21.1, 6: what the journal tells has to be done, and the disk to be mounted.
func TestMount(t *testing.T) {
	made := func(record []byte, gen int) *disk.Disk {
		im := newImage(t, 300)
		im.s.Gen = gen
		im.s.Versions[0].Root = im.root(im.base())
		d := im.disk()
		if gen == api.MaxNumber {
			return d
		}
		j, e := journal.New(d, gen)
		if e != api.OK {
			t.Fatal(e)
		}
		if e := j.Append(record); e != api.OK {
			t.Fatal(e)
		}
		return d
	}
	makes := func(path string) []byte {
		out := append([]byte{api.OpMkdir, 1, 0, 0, 0, 0, 0, 0, 0, byte(len(path))}, path...)
		return append(out, 0, 0)
	}
	r, e := fsck.Check(made(makes("/new"), 7))
	if r.Dirs != 4 || r.Files != 3 || e != api.OK {
		t.Errorf("Check() = %v, %v", r, e)
	}
	for _, record := range [][]byte{makes("/a"), makes("/f/g"), makes("new"), makes("/new")[1:], {0}, {99}} {
		isRefused(t, made(record, 7), record)
	}
	if r, e := fsck.Check(made(makes("/new"), api.MaxNumber-1)); e != api.OK {
		t.Errorf("Check() = %v, %v", r, e)
	}
	isRefused(t, made(nil, api.MaxNumber), "no Gen is left")
}

// P21.1: no more is asked of blocks that no version has, of the other superblock, and of what no version is of.
func TestNoMoreIsAsked(t *testing.T) {
	im := newImage(t, 300)
	im.s.Versions[0].Root = im.root(im.base())
	d := im.disk()
	want, e := fsck.Check(d)
	if e != api.OK {
		t.Fatal(e)
	}
	used := blocksOf(t, d)
	for n := range 300 {
		x := d.Copy()
		x.Rot(2048*n + 7*n%2048)
		if used[n] || n == im.s.Gen%2 {
			isRefused(t, x, n)
			continue
		}
		checked(t, x, want)
	}
	sector, _ := block.Put(299, api.Block{Kind: api.KindInner, Body: []byte{1, 0, 50, 0}})
	d.Write(299, sector)
	checked(t, d, want)
}

// P21.1: each version has to be as it has to be, and has its own Next.
func TestVersions(t *testing.T) {
	for at := range 8 {
		for _, is := range []bool{true, false} {
			im := newImage(t, 300)
			good := im.root(im.base())
			other := im.root(im.base().file(50, "other", 0))
			im.s.Versions = nil
			for n := range 8 {
				im.s.Versions = append(im.s.Versions, api.Version{ID: n + 1, Root: good, Next: 9, Fixed: n%2 == 0})
			}
			im.s.Versions[at].Root = other
			im.s.Versions[at].Next = 51
			if !is {
				im.s.Versions[at].Next = 50
				isRefused(t, im.disk(), at)
				continue
			}
			disk := im.disk()
			checked(t, disk, fsck.Report{Versions: 8, Dirs: 32, Files: 25, Blocks: len(blocksOf(t, disk))})
		}
	}
}
