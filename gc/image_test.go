package gc_test

import (
	"slices"
	"testing"

	"kist/api"
	"kist/block"
	"kist/cut"
	"kist/disk"
	"kist/node"
	"kist/super"
)

// spoil lays another block over one; what it answers lays back what was there.
func (g *ground) spoil(n int, b api.Block) func() {
	g.t.Helper()
	sector, e := block.Put(n, b)
	if e != api.OK {
		g.t.Fatal(e)
	}
	g.checkpoint()
	was, e := g.d.Read(n)
	if e != api.OK {
		g.t.Fatal(e)
	}
	g.lay(n, sector)
	return func() { g.lay(n, was) }
}

// lay writes a sector, which the engine reads when it comes to it. (Its last sectors are not in use.)
func (g *ground) lay(n int, sector []byte) {
	g.t.Helper()
	g.checkpoint()
	g.d.Write(n, sector)
	for at := g.d.Size() - api.CacheRoom; at < g.d.Size(); at++ {
		filler, _ := block.Put(at, api.Block{Kind: api.KindMore})
		g.d.Write(at, filler)
		if _, e := g.g.Load(at); e != api.OK {
			g.t.Fatal(e)
		}
	}
	g.d.Flush()
}

// P20.2: ErrImage, if a block is come to that is no such thing as it has to be; nothing is let go then.
func TestNoSuchThing(t *testing.T) {
	g := filled(t, 400)
	inner := g.ofKind(api.KindInner)[0]
	leaf := g.ofKind(api.KindLeaf)[0]
	chunk := g.ofKind(api.KindChunk)[0]
	more := g.ofKind(api.KindMore)[0]
	told, free := g.told(), g.g.Free()
	first := string([]byte{0, byte(chunk)})
	x := func(val string) api.Block {
		b, e := node.Put(node.Node{Leaf: true, Keys: []string{"x\x00\x00\x01\x00\x00"}, Vals: []string{val}})
		if e != api.OK {
			t.Fatal(e)
		}
		return b
	}
	body := func(body ...byte) api.Block { return api.Block{Kind: api.KindChunk, Body: body} }
	for _, bad := range []struct {
		at int
		b  api.Block
	}{
		{inner, api.Block{Kind: api.KindInner}},
		{inner, api.Block{Kind: api.KindInner, Body: []byte{1, 0, 0}}},
		{inner, api.Block{Kind: api.KindMore, Body: []byte{0}}},
		{inner, body(1, 0, 0, 0, 0)},
		{leaf, api.Block{Kind: api.KindLeaf}},
		{leaf, api.Block{Kind: api.KindLeaf, Body: []byte{1, 0, 0}}},
		{leaf, api.Block{Kind: api.KindMore}},
		{leaf, body(1, 0, 0, 0, 0)},
		{leaf, x("")},
		{leaf, x("\x00")},
		{leaf, x(first)},
		{leaf, x(first + "\x00")},
		{leaf, x(first + "\x01\x00\x00")},
		{chunk, body()},
		{chunk, body(1, 0, 0, 0)},
		{chunk, body(1, 0, 0, 0, 3)},
		{chunk, body(1, 0, 0, 0, 1)},
		{chunk, body(1, 0, 0, 1, 1, 60)},
		{chunk, body(1, 0, 2, 0, 0, 1)},
		{chunk, body(1, 0, 0, 0, 0, 1)},
		{chunk, body(0, 0, 1, 0, 0, 1)},
		{chunk, body(1, 2, 1, 0, 0, 1)},
		{chunk, api.Block{Kind: api.KindMore}},
		{chunk, api.Block{Kind: api.KindLeaf, Body: []byte{1, 1, 'a', 0}}},
		{more, body(1, 0, 1, 0, 0, 1)},
		{more, api.Block{Kind: api.KindLeaf, Body: []byte{1, 1, 'a', 0}}},
	} {
		mend := g.spoil(bad.at, bad.b)
		if e := g.upToError(); e != api.ErrImage {
			t.Errorf("%v: the error is %v", bad, e)
		}
		mend()
		if g.g.Free() != free || g.told() != told {
			t.Errorf("%v: %d blocks are free, were %d; told are %s", bad, g.g.Free(), free, g.told())
		}
	}
	g.cycle()
	g.isTight()
}

// upToError does steps up to one that is refused, or to the end of a cycle; then it rests.
func (g *ground) upToError() api.Errno {
	g.t.Helper()
	for {
		done, e := g.c.Step()
		if e != api.OK || done {
			if g.isIn(0); e != api.OK && done {
				g.t.Fatal("it is done, with an error")
			}
			return e
		}
		if g.c.Phase() != 1 && g.c.Phase() != 2 {
			g.t.Fatal(g.c.Phase())
		}
	}
}

// P20.2: the error of Load goes up, and it rests; ahead of the sweep nothing was let go.
func TestRot(t *testing.T) {
	g := filled(t, 400)
	g.checkpoint()
	told, free := g.told(), g.g.Free()
	for _, n := range g.used() {
		was, _ := g.d.Read(n)
		other := slices.Clone(was)
		other[n%256] ^= 4
		g.lay(n, other)
		if e := g.upToError(); e != api.ErrSum {
			t.Errorf("%d: the error is %v", n, e)
		}
		g.lay(n, was)
	}
	// A kid that no block may be.
	inner := g.ofKind(api.KindInner)[0]
	for kid, want := range map[int]api.Errno{0: api.ErrRange, 49: api.ErrRange, 400: api.ErrRange, 65535: api.ErrRange, 300: api.ErrSum} {
		b, e := node.Put(node.Node{Keys: []string{""}, Kids: []int{kid}})
		if e != api.OK {
			t.Fatal(e)
		}
		mend := g.spoil(inner, b)
		if e := g.upToError(); e != want {
			t.Errorf("the kid %d: the error is %v, want %v", kid, e, want)
		}
		mend()
	}
	if g.told() != told || g.g.Free() != free {
		t.Errorf("%d blocks are free, were %d; told are %s", g.g.Free(), free, g.told())
	}
	g.cycle()
	g.isTight()
}

// Where a cycle was broken off by an error, the next one knows nothing of what it had marked, or had on its list.
func TestBrokenOff(t *testing.T) {
	g := filled(t, 400)
	chunk := g.ofKind(api.KindChunk)[0]
	mend := g.spoil(chunk, api.Block{Kind: api.KindMore})
	g.upToError()
	mend()
	for _, v := range []int{1, 2} {
		g.do(of(api.OpDrop, v, ""))
	}
	g.steps(1, 1)
	g.steps(1, 2)
	g.steps(349, 2)
	g.step()
	if free := g.g.Free(); free != 350 {
		t.Errorf("%d blocks are free", free)
	}
}

// turned is a disk with a file of one chunk, whose other blocks stand ahead of its first one.
func turned(t *testing.T, data string) *disk.Disk {
	t.Helper()
	g := newGround(t, 200)
	g.do(of(api.OpCreate, 1, "/f"))
	g.do(write(1, "/f", 0, data))
	g.cycle()
	chunk, more := g.ofKind(api.KindChunk), g.ofKind(api.KindMore)
	if len(chunk) != 1 || len(more) == 0 {
		t.Fatal(chunk, more)
	}
	d, root := g.d, g.g.Versions()[0].Root
	b, _ := g.g.Load(chunk[0])
	n, e := node.Get(must(g.g.Load(root)))
	if e != api.OK {
		t.Fatal(e)
	}
	at := slices.IndexFunc(n.Keys, func(key string) bool { return key[0] == 'x' })
	n.Vals[at] = "\x00\x96" + n.Vals[at][2:] // 150
	leaf, e := node.Put(n)
	if e != api.OK {
		t.Fatal(e)
	}
	for number, b := range map[int]api.Block{150: b, 160: leaf} {
		sector, e := block.Put(number, b)
		if e != api.OK {
			t.Fatal(e)
		}
		d.Write(number, sector)
	}
	s, e := super.Load(d)
	if e != api.OK {
		t.Fatal(e)
	}
	s.Gen++
	s.Versions[0].Root = 160
	if e := super.Save(d, s); e != api.OK {
		t.Fatal(e)
	}
	return d
}

// uncut is bytes that are one chunk, of three blocks.
func uncut(t *testing.T) string {
	t.Helper()
	for seed := range int64(100) {
		if data := noise(seed, 500); len(cut.Cut([]byte(data))) == 1 {
			return data
		}
	}
	t.Fatal("all bytes are cut")
	return ""
}

func must(b api.Block, _ api.Errno) api.Block { return b }

// P20.3: a chunk whose other blocks stand ahead of its first one is not found again, when the sweep is between them.
func TestTurnedChunk(t *testing.T) {
	data := uncut(t)
	d := turned(t, data)
	for steps := range 2 + 150 + 1 {
		g := mounted(t, d.Copy())
		g.isTight()
		g.do(of(api.OpCreate, 1, "/g"))
		g.do(truncate(1, "/f", 0))
		for range steps {
			g.step()
		}
		g.do(write(1, "/g", 0, data))
		told := g.told()
		for g.c.Phase() != 0 {
			g.step()
			if g.told() != told {
				t.Fatalf("behind %d steps: told are %s", steps, g.told())
			}
		}
		g.cycle()
		g.isTight()
		if again := mounted(t, g.d); again.told() != told {
			t.Fatalf("behind %d steps: told are %s, mounted again", steps, again.told())
		}
	}
}
