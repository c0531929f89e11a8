package gc_test

import (
	"slices"
	"testing"

	"kist/api"
	"kist/gc"
	"kist/super"
)

// filled is a ground with a tree of more than one level, chunks of more than one block, two versions, and garbage.
func filled(t *testing.T, sectors int) *ground {
	t.Helper()
	g := newGround(t, sectors)
	g.do(of(api.OpCreate, 1, "/f"))
	g.do(write(1, "/f", 0, noise(1, 1000)))
	g.do(of(api.OpMkdir, 1, "/d"))
	for _, name := range []string{"/d/a", "/d/b", "/d/c", "/d/d", "/d/e", "/d/f", "/d/g"} {
		g.do(of(api.OpCreate, 1, name))
	}
	g.do(of(api.OpSnapshot, 1, ""))
	g.do(write(1, "/d/a", 5, noise(2, 600)))
	return g
}

// The chapter's examples.
func TestExamples(t *testing.T) {
	g := newGround(t, 128)
	if g.g.Free() != 78 {
		t.Error(g.g.Free())
	}
	g.steps(1, 1)
	g.steps(1, 2)
	g.steps(77, 2)
	if !g.step() {
		t.Error("the cycle is not done")
	}
	g.isIn(0)
	g.do(of(api.OpCreate, 1, "/f"))
	g.do(write(1, "/f", 0, noise(1, 1000)))
	g.do(of(api.OpDrop, 1, ""))
	g.cycle()
	if g.g.Free() != 78 {
		t.Error(g.g.Free())
	}
}

// P20.1
func TestNew(t *testing.T) {
	if c, e := gc.New(nil); c != nil || e != api.ErrArg {
		t.Errorf("New(nil) = %v, %v", c, e)
	}
	g := filled(t, 200)
	was, told := sectors(g.d), g.told()
	for range 3 {
		c, e := gc.New(g.g)
		if e != api.OK || c.Phase() != 0 {
			t.Errorf("New() = %v, %v", c, e)
		}
	}
	g.g.Watch()
	g.do(of(api.OpCreate, 1, "/h"))
	root := g.g.Versions()[0].Root
	if gc.New(g.g); !g.g.Spared(root) {
		t.Error("a new collector watches ahead of its first step")
	}
	g.do(of(api.OpUnlink, 1, "/h"))
	if was == sectors(g.d) || told != g.told() {
		t.Error("a new collector changes something")
	}
}

// P20.2: one step to begin, one for each block that is in use, one that finds the list empty, one for each block of the disk; and the phases between.
func TestPhases(t *testing.T) {
	for _, sectors := range []int{128, 129, 200, 4096} {
		g := filled(t, sectors)
		used := len(g.used())
		for _, kind := range []int{api.KindLeaf, api.KindInner, api.KindChunk, api.KindMore} {
			if len(g.ofKind(kind)) == 0 {
				t.Fatalf("no block of kind %d is in use", kind)
			}
		}
		for range 3 { // the second cycle finds nothing of the first one
			g.isIn(0)
			g.steps(1, 1)
			g.steps(used, 1)
			g.steps(1, 2)
			g.steps(sectors-50-1, 2)
			if !g.step() {
				t.Fatal("the cycle is not done")
			}
			g.isIn(0)
			g.isTight()
		}
	}
}

// P20.2: at its first step the engine watches, and at no other one.
func TestWatches(t *testing.T) {
	g := filled(t, 300)
	g.g.Watch()
	g.do(of(api.OpCreate, 1, "/h"))
	root := g.g.Versions()[0].Root
	if !g.g.Spared(root) {
		t.Error("it is not spared")
	}
	g.steps(1, 1)
	if g.g.Spared(root) {
		t.Error("it is spared")
	}
	g.do(of(api.OpCreate, 1, "/i"))
	for root := g.g.Versions()[0].Root; ; {
		if !g.g.Spared(root) {
			t.Error("it is not spared")
		}
		if g.step() {
			return
		}
	}
}

// P20.2: all roots are marked at the first step: what a version is behind it does not count.
func TestRoots(t *testing.T) {
	g := newGround(t, 400)
	g.do(of(api.OpClone, 1, "")) // two versions without a root
	g.do(of(api.OpCreate, 1, "/f"))
	g.do(write(1, "/f", 0, noise(1, 1000)))
	g.do(of(api.OpSnapshot, 1, ""))
	g.do(of(api.OpCreate, 2, "/g"))
	g.cycle()
	used := len(g.used())
	g.steps(1, 1)
	for v := 1; v <= 3; v++ {
		g.do(of(api.OpDrop, v, ""))
	}
	g.steps(used, 1)
	g.steps(1, 2)
	for !g.step() {
	}
	if free := g.g.Free(); free != 350-used {
		t.Errorf("%d blocks are free, %d were in use", free, used)
	}
	if g.cycle(); g.g.Free() != 350 {
		t.Errorf("%d blocks are free", g.g.Free())
	}
}

// P20.2: the last one on the list is taken off: of two that can't be read it is the one that stands behind the other.
func TestStack(t *testing.T) {
	g := newGround(t, 300)
	g.do(of(api.OpCreate, 1, "/f"))
	g.do(write(1, "/f", 0, noise(1, 1000)))
	g.cycle()
	chunks, leaf := g.ofKind(api.KindChunk), api.Block{Kind: api.KindLeaf}
	if len(chunks) < 2 {
		t.Fatal(chunks)
	}
	mendFirst := g.spoil(chunks[0], leaf)
	behind := 0
	for _, n := range chunks[1:] {
		b, _ := g.g.Load(n)
		behind += 1 + int(b.Body[4])
	}
	g.steps(2+behind, 1)
	g.refuses(api.ErrImage)
	mendLast := g.spoil(chunks[len(chunks)-1], leaf)
	g.steps(2, 1)
	g.refuses(api.ErrImage)
	mendFirst()
	g.steps(2, 1)
	g.refuses(api.ErrImage)
	mendLast()
	g.cycle()
	g.isTight()
}

// P20.2: a sweep lets go what is neither marked nor spared, a block at each step, and what was let go is free from the next checkpoint on.
func TestSweeps(t *testing.T) {
	g := filled(t, 128)
	g.do(of(api.OpUnlink, 1, "/d/a"))
	used := g.used()
	taken := 78 - g.g.Free()
	garbage := taken - len(used)
	if garbage < 10 {
		t.Fatalf("%d blocks are garbage", garbage)
	}
	g.steps(2+len(used), 2)
	free := g.g.Free()
	for n := 50; n < 127; n++ {
		g.steps(1, 2)
		g.checkpoint()
		many := g.g.Free() - free
		if _, is := slices.BinarySearch(used, n); is && many != 0 {
			t.Fatalf("%d was let go", n)
		}
		if many < 0 || many > 1 {
			t.Fatalf("%d blocks were let go at %d", many, n)
		}
		free, garbage = free+many, garbage-many
	}
	if !g.step() || garbage > 1 {
		t.Errorf("%d blocks are left", garbage)
	}
	g.isTight()
}

// P20.2: what the engine spares is not let go, and is in the next cycle, if it is in use by none.
func TestSpared(t *testing.T) {
	g := newGround(t, 200)
	g.do(of(api.OpCreate, 1, "/f"))
	g.cycle()
	for phase := 1; phase <= 2; phase++ {
		g.steps(1, 1)
		if phase == 2 {
			g.steps(len(g.used())+1, 2)
		}
		was := 150 - g.g.Free()
		g.do(write(1, "/f", 0, noise(1, 500)))
		g.do(truncate(1, "/f", 0))
		more := 150 - g.g.Free() - was
		for !g.step() {
		}
		if taken := 150 - g.g.Free(); taken != was+more {
			t.Errorf("phase %d: %d blocks are taken, were %d and %d", phase, taken, was, more)
		}
		g.cycle()
		g.isTight()
	}
}

// P20.2: behind the last block of the disk, and nowhere else, a checkpoint is made.
func TestCheckpoint(t *testing.T) {
	g := filled(t, 128)
	gen := func() int {
		s, e := super.Load(g.d)
		if e != api.OK {
			t.Fatal(e)
		}
		return s.Gen
	}
	was := gen()
	for {
		lay := sectors(g.d)
		if g.step() {
			break
		}
		if gen() != was || sectors(g.d) != lay {
			t.Fatal("something was written")
		}
	}
	if gen() != was+1 || len(g.d.Dirty()) > 0 {
		t.Errorf("the Gen is %d, was %d", gen(), was)
	}
	told := g.told()
	g.d.Power(nil)
	if again := mounted(t, g.d); again.told() != told {
		t.Errorf("told are %s, want %s", again.told(), told)
	}
}

// P20.2: with the checkpoint's error it rests, and what was let go stays so.
func TestCheckpointIsRefused(t *testing.T) {
	g := filled(t, 128)
	g.do(of(api.OpUnlink, 1, "/d/a"))
	g.checkpoint()
	s, e := super.Load(g.d)
	if e != api.OK {
		t.Fatal(e)
	}
	s.Gen = api.MaxNumber - 1
	super.Save(g.d, s)
	s.Gen-- // so that both superblocks are of this disk
	super.Save(g.d, s)
	g = mounted(t, g.d) // its checkpoint takes the last Gen
	g.do(of(api.OpUnlink, 1, "/f"))
	told, free := g.told(), g.g.Free()
	for range 3 {
		used := len(g.used())
		g.steps(2+used, 2)
		g.steps(77, 2)
		g.refuses(api.ErrBig)
		if g.told() != told || g.g.Free() != free {
			t.Errorf("%d blocks are free, were %d; told are %s", g.g.Free(), free, g.told())
		}
	}
	used := g.used()
	for n := 50; n < 128; n++ {
		if _, is := slices.BinarySearch(used, n); !is && g.g.Let(n) {
			t.Errorf("%d was not let go", n)
		}
	}
}

// R4, R5: what steps do hangs on what was told before, and nothing that is answered is the collector's.
func TestSameAgain(t *testing.T) {
	g, h := filled(t, 200), filled(t, 200)
	for i := 0; ; i++ {
		all := h.g.Versions()
		clear(all)
		a, e := g.c.Step()
		b, f := h.c.Step()
		if a != b || e != f || g.c.Phase() != h.c.Phase() || g.g.Free() != h.g.Free() {
			t.Fatalf("step %d: %v, %v and %v, %v", i, a, e, b, f)
		}
		if a {
			break
		}
	}
	if sectors(g.d) != sectors(h.d) || g.told() != h.told() {
		t.Error("the disks are not the same")
	}
}
