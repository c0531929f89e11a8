package fsck_test

import (
	"fmt"
	"testing"

	"kist/api"
	"kist/disk"
	"kist/engine"
	"kist/fsck"
	"kist/super"
)

// The chapter's examples.
func TestExamples(t *testing.T) {
	if r, e := fsck.Check(nil); r != (fsck.Report{}) || e != api.ErrArg {
		t.Errorf("Check(nil) = %v, %v", r, e)
	}
	d, _ := disk.New(128)
	isRefused(t, d, "a new disk")
	engine.Format(d)
	checked(t, d, fsck.Report{Versions: 1})
	g := mounted(t, d)
	g.do(of(api.OpMkdir, 1, "/d"))
	g.do(of(api.OpCreate, 1, "/d/f"))
	g.do(write(1, "/d/f", 0, "abc"))
	checked(t, d, fsck.Report{Versions: 1}) // the trees are those of the last checkpoint
	g.checkpoint()
	checked(t, d, fsck.Report{Versions: 1, Dirs: 1, Files: 1, Blocks: 2})
	for bit := range 2048 {
		x := d.Copy()
		x.Rot(2048*g.g.Versions()[0].Root + bit)
		isRefused(t, x, bit)
	}
}

// P21.1: disks that are too small for a superblock, or have none that counts.
func TestDisksWithoutASuperblock(t *testing.T) {
	for _, sectors := range []int{1, 2, 49, 50, 51, 127, 128, 4096} {
		d, _ := disk.New(sectors)
		isRefused(t, d, sectors)
		if other, _ := disk.New(sectors + 1); sectors >= 128 && other != nil {
			engine.Format(other)
			for at := range 2 {
				data, _ := other.Read(at)
				d.Write(at, data)
			}
			isRefused(t, d, sectors)
		}
	}
	g := newGround(t, 128)
	g.do(of(api.OpCreate, 1, "/f"))
	g.checkpoint()
	g.d.Rot(2048 * 1)
	checked(t, g.d, fsck.Report{Versions: 1}) // Gen 2's, ahead of the checkpoint
	g.d.Rot(9)
	isRefused(t, g.d, "two superblocks that rot")
}

// P21.1: each version has its directories and files; its blocks are counted once, whoever has them.
func TestCounts(t *testing.T) {
	g := newGround(t, 400)
	want := fsck.Report{Versions: 1}
	is := func(versions, dirs, files, blocks int) {
		t.Helper()
		want.Versions += versions
		want.Dirs += dirs
		want.Files += files
		want.Blocks += blocks
		g.checkpoint()
		checked(t, g.d, want)
	}
	is(0, 0, 0, 0)
	g.do(of(api.OpCreate, 1, "/f"))
	is(0, 0, 1, 1)
	g.do(write(1, "/f", 0, noise(1, 100)))
	is(0, 0, 0, 1)
	g.do(of(api.OpCreate, 1, "/g"))
	g.do(write(1, "/g", 0, noise(1, 100)))
	is(0, 0, 1, 0) // the same chunk
	g.do(of(api.OpMkdir, 1, "/d"))
	is(0, 1, 0, 0)
	g.do(of(api.OpSnapshot, 1, ""))
	is(1, 1, 2, 0)
	g.do(of(api.OpClone, 2, ""))
	is(1, 1, 2, 0)
	g.do(of(api.OpMkdir, 3, "/d/e"))
	is(0, 1, 0, 1) // another leaf
	g.do(of(api.OpUnlink, 1, "/f"))
	is(0, 0, -1, 1)
	g.do(of(api.OpDrop, 2, ""))
	is(-1, -1, -2, -1)
	g.do(truncate(3, "/g", 0))
	is(0, 0, 0, 0) // /f of version 3 has it still
	g.do(of(api.OpDrop, 1, ""))
	is(-1, -1, -1, -1)
	g.do(write(3, "/g", 0, uncut(t)))
	is(0, 0, 0, 3) // a chunk of three blocks
	g.do(of(api.OpDrop, 3, ""))
	is(-1, -2, -2, -want.Blocks)
}

// P21.1: trees of more than one level, files of many chunks, eight versions.
func TestCountsOfMuch(t *testing.T) {
	g := newGround(t, 4096)
	for d := range 5 {
		g.do(of(api.OpMkdir, 1, fmt.Sprintf("/d%d", d)))
		for f := range 8 {
			path := fmt.Sprintf("/d%d/file-%d", d, f)
			g.do(of(api.OpCreate, 1, path))
			g.do(write(1, path, 0, noise(int64(d), 1024)))
			g.do(write(1, path, 1024*f, noise(int64(f), 900)))
		}
	}
	for v := 1; v <= 7; v++ {
		g.do(of(api.OpClone, v, ""))
		g.do(of(api.OpUnlink, v+1, fmt.Sprintf("/d0/file-%d", v)))
	}
	g.checkpoint()
	if levels := g.levels(); levels < 3 {
		t.Errorf("%d levels", levels)
	}
	checked(t, g.d, fsck.Report{Versions: 8, Dirs: 40, Files: 40 + 39 + 38 + 37 + 36 + 35 + 34 + 33, Blocks: len(blocksOf(t, g.d))})
}

// P21.1: an image without versions is one.
func TestNoVersions(t *testing.T) {
	g := newGround(t, 128)
	g.do(of(api.OpDrop, 1, ""))
	g.checkpoint()
	checked(t, g.d, fsck.Report{})
}

// P21.1: nothing is written: of what a cut leaves nothing is spent, and nothing is flushed; what was written and not flushed counts.
func TestNothingIsWritten(t *testing.T) {
	g := newGround(t, 128)
	g.do(of(api.OpCreate, 1, "/f"))
	g.checkpoint()
	g.do(of(api.OpCreate, 1, "/g"))
	if len(g.d.Dirty()) == 0 {
		t.Error("all is flushed")
	}
	g.d.Cut(1)
	want := fsck.Report{Versions: 1, Files: 1, Blocks: 1}
	checked(t, g.d, want)
	g.d.Write(127, make([]byte, 256))
	checked(t, g.d, want)
	if dirty := g.d.Dirty(); dirty[len(dirty)-1] != 127 {
		t.Errorf("%v are dirty", dirty)
	}
	g.d.Write(126, make([]byte, 256))
	if dirty := g.d.Dirty(); dirty[len(dirty)-2] == 126 {
		t.Error("it is not cut any more")
	}
	// A superblock that was not flushed.
	s, _ := super.Load(g.d)
	x := g.d.Copy()
	s.Gen++
	s.Versions[0].Root = 0
	sector, _ := super.Put(s)
	x.Write(s.Gen%2, sector)
	checked(t, x, fsck.Report{Versions: 1})
	x.Power(nil)
	checked(t, x, want)
}

// R5: what is told hangs on the disk alone.
func TestTwice(t *testing.T) {
	g := newGround(t, 300)
	for i := range 30 {
		path := fmt.Sprintf("/f%d", i)
		g.do(of(api.OpCreate, 1, path))
		g.do(write(1, path, i, noise(int64(i), 9*i)))
	}
	g.checkpoint()
	want, e := fsck.Check(g.d)
	if e != api.OK || want.Files != 30 {
		t.Fatal(want, e)
	}
	for range 20 {
		checked(t, g.d, want)
		checked(t, g.d.Copy(), want)
	}
	if told, _ := mounted(t, g.d.Copy()).told(); told == "" {
		t.Error("nothing is told")
	}
	g.do(of(api.OpUnlink, 1, "/f7")) // the engine goes on
	g.checkpoint()
	want.Files--
	if r, e := fsck.Check(g.d); r.Files != want.Files || e != api.OK {
		t.Errorf("Check() = %v, %v", r, e)
	}
}
