package files_test

import (
	"bytes"
	"fmt"
	"maps"
	"math"
	"math/rand"
	"slices"
	"testing"

	"kist/api"
)

// with is a version with another thing at a key of its tree.
func (g *ground) with(v api.Version, key, val string) api.Version {
	g.t.Helper()
	root, e := g.x.Put(v.Root, key, val)
	if e != api.OK {
		g.t.Fatal(e)
	}
	v.Root = root
	g.begin()
	return v
}

func (g *ground) without(v api.Version, key string) api.Version {
	g.t.Helper()
	root, found, e := g.x.Delete(v.Root, key)
	if e != api.OK || !found {
		g.t.Fatalf("Delete(%q) = %v, %v", key, found, e)
	}
	v.Root = root
	g.begin()
	return v
}

// The keys of the chapter, byte by byte.
func TestKeys(t *testing.T) {
	g := newGround(t, 200, 9)
	v := g.dir(empty(), "/d")
	v.Next = 0x010203
	v = g.filled(v, "/d/a.b", bytes.Repeat([]byte("x"), 0x0203))
	v = g.file(v, "/d/~")
	var val []string
	for _, c := range g.placed(v, 0x010203) {
		val = append(val, string([]byte{byte(c.Block >> 8), byte(c.Block), byte(c.Len >> 8), byte(c.Len)}))
	}
	if len(val) != 2 {
		t.Fatalf("the file has %d chunks", len(val))
	}
	want := []api.Entry{
		{Key: "d\x00\x00\x00d", Val: "\x00\x00\x01"},
		{Key: "d\x00\x00\x01a.b", Val: "\x01\x02\x03"},
		{Key: "d\x00\x00\x01~", Val: "\x01\x02\x04"},
		{Key: "i\x00\x00\x01", Val: "\x02\x00\x00"},
		{Key: "i\x01\x02\x03", Val: "\x01\x02\x03"},
		{Key: "i\x01\x02\x04", Val: "\x01\x00\x00"},
		{Key: "x\x01\x02\x03\x00\x00", Val: val[0]},
		{Key: "x\x01\x02\x03\x00\x01", Val: val[1]},
	}
	if got, e := g.x.Scan(v.Root, "", "", 99); e != api.OK || !slices.Equal(got, want) {
		t.Errorf("the tree has %q, %v, want %q", got, e, want)
	}
	if v.Next != 0x010205 {
		t.Errorf("Next is %x", v.Next)
	}
	v = g.ok(g.f.Truncate(v, "/d/a.b", 5))
	v = g.ok(g.f.Rename(v, "/d/~", "/e"))
	want = []api.Entry{
		{Key: "d\x00\x00\x00d", Val: "\x00\x00\x01"},
		{Key: "d\x00\x00\x00e", Val: "\x01\x02\x04"},
		{Key: "d\x00\x00\x01a.b", Val: "\x01\x02\x03"},
		{Key: "i\x00\x00\x01", Val: "\x02\x00\x00"},
		{Key: "i\x01\x02\x03", Val: "\x01\x00\x05"},
		{Key: "i\x01\x02\x04", Val: "\x01\x00\x00"},
		{Key: "x\x01\x02\x03\x00\x00", Val: "\x00" + string([]byte{byte(g.placed(v, 0x010203)[0].Block), 0, 5})},
	}
	if got, e := g.x.Scan(v.Root, "", "", 99); e != api.OK || !slices.Equal(got, want) {
		t.Errorf("the tree has %q, %v, want %q", got, e, want)
	}
}

// errors of the layers below go up: there is no such root, no whole block, or one that is no node.
func TestRootsThatAreNone(t *testing.T) {
	g := newGround(t, 200, 9)
	chunk, _, e := g.s.Save([]byte("abc"))
	if e != api.OK {
		t.Fatal(e)
	}
	for root, want := range map[int]api.Errno{
		math.MinInt: api.ErrRange, -1: api.ErrRange, 1: api.ErrRange, 49: api.ErrRange, 250: api.ErrRange, math.MaxInt: api.ErrRange,
		60: api.ErrSum, 249: api.ErrSum, chunk.Block: api.ErrImage,
	} {
		v := api.Version{ID: 7, Root: root, Next: 9}
		g.stats(v, "/", true, 0)
		g.isAmiss(v, "/f", want, want, want)
		g.refusesAll(v, "/f", want)
		g.refused(want)(g.f.Make(v, "/f", true))
		if l, e := g.f.List(v, "/"); len(l) != 0 || e != want {
			t.Errorf("List(/) = %q, %v, want %v", l, e, want)
		}
		if l, e := g.f.Chunks(v); len(l) != 0 || e != want {
			t.Errorf("Chunks() = %v, %v, want %v", l, e, want)
		}
	}
}

// refusesAll wants all that changes what stands at a path to be refused.
func (g *ground) refusesAll(v api.Version, path string, want api.Errno) {
	g.t.Helper()
	g.refused(want)(g.f.Write(v, path, 1, []byte("b")))
	g.refused(want)(g.f.Truncate(v, path, 1))
	g.refused(want)(g.f.Unlink(v, path))
	g.refused(want)(g.f.Rename(v, path, "/new"))
}

// What stands at a name, or is told of an inode, may be none that the chapter tells.
func TestInodesThatAreNone(t *testing.T) {
	g := newGround(t, 900, 9)
	v := g.some() // /g has the inode 5
	bad := []api.Version{g.without(v, "i\x00\x00\x05")}
	for _, val := range []string{"", "\x01", "\x01\x00", "\x01\x00\x00\x00", "\x00\x00\x00", "\x03\x00\x00", "\xff\x00\x00", "\x01\x20\x01", "\x01\xff\xff", "\x02\x00\x01", "\x02\x01\x00"} {
		bad = append(bad, g.with(v, "i\x00\x00\x05", val))
	}
	for _, val := range []string{"", "\x05", "\x00\x05", "\x00\x00\x00\x05", "\x00\x00\x09", "\xff\xff\xff"} {
		bad = append(bad, g.with(v, "d\x00\x00\x00g", val))
	}
	for _, w := range bad {
		g.isAmiss(w, "/g", api.ErrImage, api.ErrImage, api.ErrImage)
		g.isAmiss(w, "/g/x", api.ErrImage, api.ErrImage, api.ErrImage)
		g.refusesAll(w, "/g", api.ErrImage)
		g.refused(api.ErrImage)(g.f.Make(w, "/g/x", true))
		g.refused(api.ErrExists)(g.f.Make(w, "/g", true))
		g.lists(w, "/", "d", "g")
		g.has(w, "/d/f", []byte("abc"))
		g.ok(g.f.Unlink(w, "/d/f"))
	}
}

// The chunks of a file may be none that the chapter tells.
func TestChunksThatAreNone(t *testing.T) {
	g := newGround(t, 900, 9)
	v := g.some() // /d/f has the inode 2, and one chunk
	key, block := "x\x00\x00\x02\x00\x00", byte(g.placed(v, 2)[0].Block)
	stands := string([]byte{0, block, 0, 3})
	own := []api.Version{ // none of whose chunks is amiss, but they are not the file's
		g.without(v, key),
		g.with(v, "x\x00\x00\x02\x00\x01", "\x00\x32\x00\x01"),
		g.with(g.without(v, key), "x\x00\x00\x02\x00\x01", stands),
		g.with(v, key, "\x00\x32\x00\x02"),
		g.with(v, key, "\x00\x32\x00\x04"),
	}
	all := []api.Version{
		g.with(v, "x\x00\x00\x02\x00\x02", "\x00\x32\x00\x00"),
		g.with(v, "x\x00\x00\x02", "\x00\x32\x00\x01"),
		g.with(v, "x\x00\x00\x02\x00", "\x00\x32\x00\x01"),
		g.with(v, "x\x00\x00\x02\x00\x00\x00", "\x00\x32\x00\x01"),
		g.with(g.without(v, key), "x\x00\x00\x02\x00", stands),
	}
	for _, val := range []string{"", "\x00\x03", "\x00\x32\x00", "\x00\x32\x00\x03\x00", "\x00\x32\x00\x00", "\x00\x32\x02\x01", "\x00\x32\xff\xff"} {
		all = append(all, g.with(v, key, val))
	}
	for _, w := range append(own, all...) {
		g.stats(w, "/d/f", false, 3)
		if data, e := g.f.Read(w, "/d/f", 0, 9); len(data) != 0 || e != api.ErrImage {
			t.Errorf("Read() = %x, %v", data, e)
		}
		g.refused(api.ErrImage)(g.f.Write(w, "/d/f", 0, []byte("b")))
		g.refused(api.ErrImage)(g.f.Truncate(w, "/d/f", 1))
		g.refused(api.ErrImage)(g.f.Unlink(w, "/d/f"))
		g.has(g.ok(g.f.Rename(w, "/g", "/h")), "/h", nil)
	}
	for _, w := range all {
		if l, e := g.f.Chunks(w); len(l) != 0 || e != api.ErrImage {
			t.Errorf("Chunks() = %v, %v", l, e)
		}
	}
}

// Where a chunk is to stand there may be none: the store's error goes up.
func TestBlocksThatAreNoChunks(t *testing.T) {
	g := newGround(t, 200, 9)
	v := g.some()
	for block, want := range map[int]api.Errno{0: api.ErrRange, 49: api.ErrRange, 65535: api.ErrRange, 249: api.ErrSum, v.Root: api.ErrImage} {
		w := g.with(v, "x\x00\x00\x02\x00\x00", string([]byte{byte(block >> 8), byte(block), 0, 3}))
		if data, e := g.f.Read(w, "/d/f", 2, 9); len(data) != 0 || e != want {
			t.Errorf("block %d: Read() = %x, %v, want %v", block, data, e, want)
		}
		g.refused(want)(g.f.Write(w, "/d/f", 0, []byte("b")))
		g.refused(want)(g.f.Truncate(w, "/d/f", 2))
		g.reads(w, "/d/f", 3, 9, nil)
		g.ok(g.f.Unlink(w, "/d/f"))
		if l, e := g.f.Chunks(w); e != api.OK || !slices.Equal(l, []api.Chunk{{Block: block, Len: 3}}) {
			t.Errorf("Chunks() = %v, %v", l, e)
		}
	}
}

// A bit that rots is told by who comes to it, and by nobody else.
func TestRot(t *testing.T) {
	g := newGround(t, 900, 9)
	data := noise(1, 3000)
	v := g.filled(g.some(), "/big", data)
	g.c.Flush()
	g.d.Flush()
	list := g.placed(v, 6)
	rotten := list[2]
	from := list[0].Len + list[1].Len
	end := from + rotten.Len
	g.d.Rot(2048*rotten.Block + 100)
	g.c.Forget(rotten.Block)
	for _, l := range []struct {
		off, n int
		want   api.Errno
	}{
		{0, from, api.OK}, {0, from + 1, api.ErrSum}, {from, 1, api.ErrSum}, {from, 0, api.OK}, {end - 1, 1, api.ErrSum}, {end, 9999, api.OK}, {0, 9999, api.ErrSum},
	} {
		var want []byte
		if l.want == api.OK {
			want = data[l.off:min(l.off+l.n, len(data))]
		}
		if got, e := g.f.Read(v, "/big", l.off, l.n); e != l.want || !bytes.Equal(got, want) {
			t.Errorf("Read(%d, %d) = %x, %v, want %v", l.off, l.n, got, e, l.want)
		}
	}
	g.stats(v, "/big", false, 3000)
	g.refused(api.ErrSum)(g.f.Write(v, "/big", from, []byte("x")))
	g.refused(api.ErrSum)(g.f.Truncate(v, "/big", end-1))
	g.has(v, "/d/f", []byte("abc"))
	w := g.ok(g.f.Unlink(v, "/big"))
	g.lists(w, "/", "d", "g")
	g.d.Rot(2048*v.Root + 100)
	g.c.Forget(v.Root)
	g.isAmiss(v, "/d", api.ErrSum, api.ErrSum, api.ErrSum)
	g.refusesAll(v, "/d/f", api.ErrSum)
	g.refused(api.ErrSum)(g.f.Make(v, "/new", false))
	if l, e := g.f.Chunks(v); len(l) != 0 || e != api.ErrSum {
		t.Errorf("Chunks() = %v, %v", l, e)
	}
}

// Names that lead round, and many that lead to the same: every call ends, and soon. By each way alone there would be 64^6 of them.
func TestNamesThatLeadRound(t *testing.T) {
	g := newGround(t, 2000, 32)
	v := empty()
	for i := range 8 {
		v = g.dir(v, fmt.Sprint("/", i))
	}
	for inode := range 8 {
		for i := range 64 {
			v = g.with(v, string([]byte{'d', 0, 0, byte(inode + 1), byte(60 + i)}), string([]byte{0, 0, byte(1 + (i+inode)%8)}))
		}
	}
	g.stats(v, "/0/A/A/A/A/A", true, 0)
	g.refused(api.ErrBig)(g.f.Rename(v, "/0", "/new"))
	g.refused(api.ErrBig)(g.f.Rename(v, "/0/A/A", "/1/new"))
	g.refused(api.ErrNotEmpty)(g.f.Unlink(v, "/0"))
	g.ok(g.f.Make(v, "/0/A/A/A/A/new", true))
	v = g.with(v, "d\x00\x00\x00/", "\x00\x00\x00")
	v = g.with(v, "d\x00\x00\x00l", "\x00\x00\x00")
	g.f.Stat(v, "/l/l/l/l/l/l")
	g.f.Rename(v, "/l", "/m")
	g.f.Unlink(v, "/l")
}

// mangled is a version some of whose keys and what stands there are others.
func mangled(g *ground, chance *rand.Rand, v api.Version) api.Version {
	g.t.Helper()
	entries, e := g.x.Scan(v.Root, "", "", math.MaxInt)
	if e != api.OK {
		g.t.Fatal(e)
	}
	for range 1 + chance.Intn(4) {
		entry := entries[chance.Intn(len(entries))]
		texts := [2][]byte{[]byte(entry.Key), []byte(entry.Val)}
		text := &texts[chance.Intn(2)]
		at := chance.Intn(len(*text))
		switch chance.Intn(4) {
		case 0:
			(*text)[at] = byte(chance.Intn(256))
		case 1:
			(*text)[at] ^= byte(1 + chance.Intn(3))
		case 2:
			*text = slices.Delete(*text, at, at+1)
		case 3:
			*text = slices.Insert(*text, at, byte(chance.Intn(3)))
		}
		if root, e := g.x.Put(v.Root, string(texts[0]), string(texts[1])); e == api.OK {
			v.Root = root
		}
		g.x.Begin()
	}
	return v
}

// R1: whatever stands in the tree, no call panics; beside an error it answers nothing.
func TestMangledTrees(t *testing.T) {
	came := map[api.Errno]int{}
	for seed := range int64(300) {
		chance := rand.New(rand.NewSource(seed))
		g := newGround(t, 600, 9)
		v := g.filled(g.some(), "/d/e/big", noise(seed, 1500))
		w := mangled(g, chance, v)
		for _, path := range []string{"/", "/d", "/d/f", "/d/e", "/d/e/h", "/g", "/d/e/big", "/d/e/big/x", "/d/new", "/new"} {
			for _, e := range g.tried(w, path) {
				came[e]++
			}
		}
		if l, e := g.f.Chunks(w); e != api.OK && len(l) > 0 {
			t.Errorf("Chunks() = %v, %v", l, e)
		}
		g.x.Begin()
		g.has(v, "/d/e/big", noise(seed, 1500))
		if t.Failed() {
			t.Fatal("seed ", seed)
		}
	}
	if came[api.OK] == 0 || came[api.ErrImage] == 0 {
		t.Errorf("what came is %v", maps.All(came))
	}
}

// tried is the errors of all calls of a path.
func (g *ground) tried(v api.Version, path string) []api.Errno {
	g.t.Helper()
	dir, size, e := g.f.Stat(v, path)
	l, f := g.f.List(v, path)
	data, h := g.f.Read(v, path, 1, 9000)
	if e != api.OK && (dir || size != 0) || f != api.OK && len(l) > 0 || h != api.OK && len(data) > 0 {
		g.t.Errorf("%s: beside errors, %v, %v and %v, there are %v, %d, %q, %x", path, e, f, h, dir, size, l, data)
	}
	out := []api.Errno{e, f, h}
	for _, do := range []func() (api.Version, api.Errno){
		func() (api.Version, api.Errno) { return g.f.Make(v, path, true) },
		func() (api.Version, api.Errno) { return g.f.Write(v, path, 700, data) },
		func() (api.Version, api.Errno) { return g.f.Truncate(v, path, 1000) },
		func() (api.Version, api.Errno) { return g.f.Rename(v, path, "/moved") },
		func() (api.Version, api.Errno) { return g.f.Unlink(v, path) },
	} {
		g.begin()
		w, e := do()
		if e != api.OK && w != (api.Version{}) {
			g.t.Errorf("%s: beside the error %v the version is %v", path, e, w)
		}
		g.x.Undo()
		g.s.Undo()
		out = append(out, e)
	}
	return out
}
