package fsck_test

import (
	"fmt"
	"maps"
	"math"
	"slices"
	"strings"
	"testing"

	"kist/alloc"
	"kist/api"
	"kist/cache"
	"kist/chunks"
	"kist/cut"
	"kist/disk"
	"kist/engine"
	"kist/fsck"
	"kist/names"
	"kist/node"
	"kist/super"
	"kist/tree"
)

// over is a cache, a tree and a store on a disk.
func over(t *testing.T, d *disk.Disk) (*cache.Cache, *tree.Tree, *chunks.Store) {
	t.Helper()
	c, e := cache.New(d, 1024)
	if e != api.OK {
		t.Fatal(e)
	}
	m, _ := alloc.New(api.FirstBlock, api.FirstBlock)
	x, _ := tree.New(c, m)
	s, _ := chunks.New(c, m)
	return c, x, s
}

// levels is how many the tree of the first version has.
func (g *ground) levels() int {
	g.t.Helper()
	_, x, _ := over(g.t, g.d)
	levels, e := x.Levels(g.g.Versions()[0].Root)
	if e != api.OK {
		g.t.Fatal(e)
	}
	return levels
}

// blocksOf is the blocks of all that versions have.
func blocksOf(t *testing.T, d *disk.Disk) map[int]bool {
	t.Helper()
	out := map[int]bool{}
	_, x, s := over(t, d)
	kept, _ := super.Load(d)
	for _, v := range kept.Versions {
		numbers, _ := x.Blocks(v.Root)
		entries, _ := x.Scan(v.Root, "x", "", math.MaxInt)
		for _, entry := range entries {
			of, _ := s.Blocks(chunkOf(entry.Val))
			numbers = append(numbers, of...)
		}
		for _, n := range numbers {
			out[n] = true
		}
	}
	return out
}

func low(s string) int {
	n := 0
	for _, b := range []byte(s) {
		n = 256*n + int(b)
	}
	return n
}

func chunkOf(val string) api.Chunk { return api.Chunk{Block: low(val[:2]), Len: low(val[2:4])} }

// tale is what an engine would tell of a tree that is the only version's. (P21.3)
func (im *image) tale(a tale) string {
	var out strings.Builder
	out.WriteString("1:")
	im.below(a, &out, 0, "")
	fmt.Fprintf(&out, "next %d", im.s.Next)
	return out.String()
}

func (im *image) below(a tale, out *strings.Builder, up int, path string) {
	for _, key := range slices.Sorted(maps.Keys(a)) {
		if !strings.HasPrefix(key, nameAt(up, "")) {
			continue
		}
		inode, name := low(a[key]), path+"/"+key[4:]
		if a[inodeAt(inode)] == isDir() {
			fmt.Fprintf(out, "%s/;", name)
			im.below(a, out, inode, name)
			continue
		}
		var data []byte
		for place := 0; a[placeAt(inode, place)] != ""; place++ {
			more, _ := im.all.Load(chunkOf(a[placeAt(inode, place)]))
			data = append(data, more...)
		}
		fmt.Fprintf(out, "%s=%q;", name, data)
	}
}

// isWellFormed is the chapter told once more, word by word.
func isWellFormed(t *testing.T, d *disk.Disk) bool {
	t.Helper()
	s, e := super.Load(d)
	if e != api.OK {
		return false
	}
	_, e = engine.Mount(d.Copy())
	if e != api.OK {
		return false
	}
	for _, v := range s.Versions {
		all, sound := soundTree(t, d, v.Root)
		if !sound || !all.haveForms() || !all.haveInodes(v.Next) || !all.haveNames() || !all.haveChunks(t, d) {
			return false
		}
	}
	return true
}

// soundTree is all that stands in a tree, and whether it is sound.
func soundTree(t *testing.T, d *disk.Disk, root int) (tale, bool) {
	c, _, _ := over(t, d)
	all, levels := tale{}, map[int]bool{}
	ok := true
	var down func(n, level int) []string // all keys of it, and below
	down = func(n, level int) []string {
		b, e := c.Get(n)
		x, f := node.Get(b)
		if e != api.OK || f != api.OK || level > 16 {
			ok = false
			return nil
		}
		keys := slices.Clone(x.Keys)
		if x.Leaf {
			levels[level] = true
			for i, key := range x.Keys {
				all[key] = x.Vals[i]
			}
			return keys
		}
		for i, kid := range x.Kids {
			if !ok {
				return nil
			}
			for _, key := range down(kid, level+1) {
				ok = ok && key >= x.Keys[i] && (i+1 == len(x.Keys) || key < x.Keys[i+1])
				keys = append(keys, key)
			}
		}
		return keys
	}
	if root != 0 {
		down(root, 1)
	}
	return all, ok && len(levels) <= 1
}

// of is the keys with a letter.
func (a tale) of(letter byte) []string {
	return slices.DeleteFunc(slices.Sorted(maps.Keys(a)), func(key string) bool { return key[0] != letter })
}

func (a tale) haveForms() bool {
	for key, val := range a {
		ok := false
		switch {
		case key[0] == 'd':
			ok = len(key) >= 4 && names.Name(key[4:]) && len(val) == 3
		case key[0] == 'i':
			ok = len(key) == 4 && len(val) == 3
		case key[0] == 'x':
			ok = len(key) == 6 && len(val) == 4
		}
		if !ok {
			return false
		}
	}
	return true
}

func (a tale) haveInodes(next int) bool {
	for _, key := range a.of('i') {
		val, inode, has := a[key], low(key[1:]), 0
		for _, other := range a.of('d') {
			if low(a[other]) == inode {
				has++
			}
		}
		size := low(val[1:])
		if inode < 1 || inode > next-1 || has != 1 || !(val[0] == 1 && size <= 8192 || val[0] == 2 && size == 0) {
			return false
		}
	}
	return true
}

func (a tale) haveNames() bool {
	for _, key := range a.of('d') {
		if up := low(key[1:4]); up != 0 && a[inodeAt(up)] != isDir() || a[inodeAt(low(a[key]))] == "" {
			return false
		}
		steps := 0
		for inode := low(a[key]); inode != 0; steps++ {
			up := 0
			for _, other := range a.of('d') {
				if low(a[other]) == inode {
					up = low(other[1:4])
				}
			}
			if inode = up; steps == 6 {
				return false
			}
		}
	}
	return true
}

func (a tale) haveChunks(t *testing.T, d *disk.Disk) bool {
	_, _, s := over(t, d)
	whose := map[string]bool{}
	for _, key := range a.of('x') {
		whose[key] = false
	}
	for _, key := range a.of('i') {
		if a[key][0] != 1 {
			continue
		}
		var data []byte
		var lengths []int
		for place := 0; a[placeAt(low(key[1:]), place)] != ""; place++ {
			at := placeAt(low(key[1:]), place)
			more, e := s.Load(chunkOf(a[at]))
			if e != api.OK {
				return false
			}
			whose[at] = true
			data, lengths = append(data, more...), append(lengths, len(more))
		}
		if len(data) != low(a[key][1:]) || !slices.Equal(lengths, cut.Cut(data)) {
			return false
		}
	}
	for _, is := range whose {
		if !is {
			return false
		}
	}
	return true
}

// isTold wants a disk to be told well formed just if it is, and then to be mounted, and to tell what is reported. (P21.1, P21.3)
func isTold(t *testing.T, d *disk.Disk, about any) bool {
	t.Helper()
	is := isWellFormed(t, d)
	if !is {
		isRefused(t, d, about)
		return false
	}
	want := fsck.Report{Blocks: len(blocksOf(t, d))}
	s, _ := super.Load(d)
	want.Versions = len(s.Versions)
	for _, v := range s.Versions {
		all, _ := soundTree(t, d, v.Root)
		for _, key := range all.of('i') {
			if all[key][0] == 2 {
				want.Dirs++
			} else {
				want.Files++
			}
		}
	}
	checked(t, d, want)
	return true
}
