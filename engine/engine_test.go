package engine_test

import (
	"bytes"
	"fmt"
	"math"
	"math/rand"
	"slices"
	"strings"
	"testing"

	"kist/api"
	"kist/disk"
	"kist/engine"
	"kist/journal"
	"kist/super"
)

// ground is an engine, with the disk that it stands on.
type ground struct {
	t *testing.T
	d *disk.Disk
	g *engine.Engine
}

// newGround is one on a disk that was formatted.
func newGround(t *testing.T, sectors int) *ground {
	t.Helper()
	d, e := disk.New(sectors)
	if e != api.OK {
		t.Fatal(e)
	}
	if e := engine.Format(d); e != api.OK {
		t.Fatal(e)
	}
	g := &ground{t: t, d: d}
	g.mount()
	return g
}

func (g *ground) mount() {
	g.t.Helper()
	x, e := engine.Mount(g.d)
	if e != api.OK || x == nil {
		g.t.Fatalf("Mount() = %v, %v", x, e)
	}
	g.g = x
}

// isNoMount wants a disk not to be mounted.
func (g *ground) isNoMount(want api.Errno) {
	g.t.Helper()
	if x, e := engine.Mount(g.d.Copy()); x != nil || e != want {
		g.t.Errorf("Mount() = %v, %v, want %v", x, e, want)
	}
}

// do does what is not to be refused.
func (g *ground) do(x api.Op) api.Reply {
	g.t.Helper()
	r := g.g.Do(x)
	if r.Code != api.OK {
		g.t.Fatalf("%v is answered %v", x, r)
	}
	return r
}

func (g *ground) refuses(want api.Errno, x api.Op) {
	g.t.Helper()
	r := g.g.Do(x)
	if r.Code != want || r.Value != 0 || len(r.Data) > 0 || len(r.Names) > 0 {
		g.t.Errorf("%v is answered %v, want %v", x, r, want)
	}
}

func (g *ground) checkpoint() {
	g.t.Helper()
	if e := g.g.Checkpoint(); e != api.OK {
		g.t.Fatal(e)
	}
}

// gen is the Gen that the disk's superblock tells.
func (g *ground) gen() int {
	g.t.Helper()
	s, e := super.Load(g.d)
	if e != api.OK {
		g.t.Fatal(e)
	}
	return s.Gen
}

// records is those that the journal has.
func (g *ground) records() [][]byte {
	g.t.Helper()
	all, e := journal.Open(g.d, g.gen())
	if e != api.OK {
		g.t.Fatal(e)
	}
	return all
}

// sectors is all that a disk has.
func sectors(d *disk.Disk) string {
	var out strings.Builder
	for at := range d.Size() {
		data, _ := d.Read(at)
		out.Write(data)
	}
	return out.String()
}

func mkdir(v int, path string) api.Op { return api.Op{Kind: api.OpMkdir, Version: v, Path: path} }

func create(v int, path string) api.Op { return api.Op{Kind: api.OpCreate, Version: v, Path: path} }

func write(v int, path string, off int, data string) api.Op {
	return api.Op{Kind: api.OpWrite, Version: v, Path: path, Off: off, Data: []byte(data)}
}

func truncate(v int, path string, size int) api.Op {
	return api.Op{Kind: api.OpTruncate, Version: v, Path: path, Len: size}
}

func rename(v int, path, to string) api.Op {
	return api.Op{Kind: api.OpRename, Version: v, Path: path, To: to}
}

func unlink(v int, path string) api.Op { return api.Op{Kind: api.OpUnlink, Version: v, Path: path} }

func snapshot(v int) api.Op { return api.Op{Kind: api.OpSnapshot, Version: v} }

func clone(v int) api.Op { return api.Op{Kind: api.OpClone, Version: v} }

func drop(v int) api.Op { return api.Op{Kind: api.OpDrop, Version: v} }

func read(v int, path string, off, many int) api.Op {
	return api.Op{Kind: api.OpRead, Version: v, Path: path, Off: off, Len: many}
}

func list(v int, path string) api.Op { return api.Op{Kind: api.OpList, Version: v, Path: path} }

func stat(v int, path string) api.Op { return api.Op{Kind: api.OpStat, Version: v, Path: path} }

func versions() api.Op { return api.Op{Kind: api.OpVersions} }

func sync() api.Op { return api.Op{Kind: api.OpSync} }

// noise is bytes that don't pack.
func noise(seed int64, many int) string {
	data := make([]byte, many)
	rand.New(rand.NewSource(seed)).Read(data)
	return string(data)
}

func (g *ground) reads(v int, path, want string) {
	g.t.Helper()
	r := g.do(read(v, path, 0, 9000))
	if string(r.Data) != want || r.Value != 0 || len(r.Names) > 0 {
		g.t.Errorf("%d%s has %q, want %q", v, path, r.Data, want)
	}
}

func (g *ground) lists(v int, path string, want ...string) {
	g.t.Helper()
	r := g.do(list(v, path))
	if !slices.Equal(r.Names, want) || r.Value != 0 || len(r.Data) > 0 {
		g.t.Errorf("%d%s has %q, want %q", v, path, r.Names, want)
	}
}

func (g *ground) hasVersions(want ...string) {
	g.t.Helper()
	r := g.do(versions())
	if !slices.Equal(r.Names, want) || r.Value != 0 || len(r.Data) > 0 {
		g.t.Errorf("the versions are %q, want %q", r.Names, want)
	}
	var all []string
	for _, v := range g.g.Versions() {
		name := fmt.Sprint(v.ID)
		if v.Fixed {
			name += "!"
		}
		all = append(all, name)
	}
	if !slices.Equal(all, want) {
		g.t.Errorf("the versions are %q, want %q", all, want)
	}
}

// The chapter's examples.
func TestExamples(t *testing.T) {
	g := newGround(t, 128)
	if n := g.g.Free(); n != 78 {
		t.Errorf("%d blocks are free", n)
	}
	if all := g.g.Versions(); !slices.Equal(all, []api.Version{{ID: 1, Next: 1}}) {
		t.Errorf("the versions are %v", all)
	}
	for _, synced := range []bool{false, true} {
		g = newGround(t, 128)
		g.do(create(1, "/f"))
		g.do(write(1, "/f", 0, "ab"))
		if r := g.do(read(1, "/f", 0, 9)); string(r.Data) != "ab" {
			t.Errorf("read is %q", r.Data)
		}
		if r := g.do(snapshot(1)); r.Value != 2 {
			t.Errorf("the snapshot is %d", r.Value)
		}
		g.refuses(api.ErrFixed, write(2, "/f", 0, "x"))
		g.hasVersions("1", "2!")
		if synced {
			g.do(sync())
		}
		g.d.Power(nil)
		g.mount()
		if synced {
			g.lists(1, "/", "f")
		} else {
			g.lists(1, "/")
		}
	}
}

// P19.1
func TestFormat(t *testing.T) {
	if e := engine.Format(nil); e != api.ErrArg {
		t.Error(e)
	}
	for _, size := range []int{1, 50, 127} {
		small, _ := disk.New(size)
		small.Write(0, bytes.Repeat([]byte("x"), 256))
		small.Flush()
		was := sectors(small)
		if e := engine.Format(small); e != api.ErrArg || sectors(small) != was || len(small.Dirty()) > 0 {
			t.Error(size, e, small.Dirty())
		}
	}
	for _, size := range []int{128, 129, 4096} {
		d, _ := disk.New(size)
		if e := engine.Format(d); e != api.OK {
			t.Fatal(e)
		}
		if len(d.Dirty()) > 0 {
			t.Errorf("not flushed are %v", d.Dirty())
		}
		isFormatted(t, d)
	}
}

func isFormatted(t *testing.T, d *disk.Disk) {
	t.Helper()
	sector, e := super.Put(api.Super{Gen: 1, Sectors: d.Size(), Next: 2, Versions: []api.Version{{ID: 1, Next: 1}}})
	if e != api.OK {
		t.Fatal(e)
	}
	for at := range api.FirstBlock {
		want := make([]byte, 256)
		if at == 1 {
			want = sector
		}
		if got, _ := d.Read(at); !bytes.Equal(got, want) {
			t.Errorf("the sector %d is %x, want %x", at, got, want)
		}
	}
}

// P19.1: of what a disk had before nothing counts, and its blocks stay.
func TestFormatAgain(t *testing.T) {
	g := newGround(t, 200)
	g.do(create(1, "/f"))
	g.do(write(1, "/f", 0, noise(1, 1000)))
	g.checkpoint()
	g.do(snapshot(1))
	g.checkpoint()
	g.do(create(1, "/g"))
	was := sectors(g.d)
	if e := engine.Format(g.d); e != api.OK {
		t.Fatal(e)
	}
	isFormatted(t, g.d)
	if sectors(g.d)[50*256:] != was[50*256:] {
		t.Error("blocks were written")
	}
	g.mount()
	g.hasVersions("1")
	g.lists(1, "/")
	if g.g.Free() != 150 || g.g.Next() != 2 {
		t.Error(g.g.Free(), g.g.Next())
	}
}

// P19.1: what the superblocks said is gone ahead of the journal; where the power goes in between, nothing is told of what was there.
func TestFormatWithoutPower(t *testing.T) {
	for n := range 60 {
		g := newGround(t, 128)
		g.do(create(1, "/f"))
		g.checkpoint()
		g.do(create(1, "/g"))
		g.do(sync())
		g.d.Cut(n)
		engine.Format(g.d)
		g.d.Power(nil)
		if n >= 51 && n < 53 { // two sectors, those of the journal, and their flush
			g.isNoMount(api.ErrImage)
			continue
		}
		g.mount()
		if n < 51 {
			g.lists(1, "/", "f", "g")
		} else {
			g.lists(1, "/")
		}
	}
}

// P19.2: what is no disk, or has no superblock, is not mounted.
func TestMountOfNone(t *testing.T) {
	if g, e := engine.Mount(nil); g != nil || e != api.ErrArg {
		t.Error(g, e)
	}
	for _, size := range []int{1, 2, 50, 127, 128, 4096} {
		d, _ := disk.New(size)
		if g, e := engine.Mount(d); g != nil || e != api.ErrImage || len(d.Dirty()) > 0 {
			t.Error(size, g, e)
		}
	}
}

// P19.2: a checkpoint is made, in any case.
func TestMountIsACheckpoint(t *testing.T) {
	g := newGround(t, 128)
	for gen := 2; gen < 6; gen++ {
		if g.gen() != gen || len(g.d.Dirty()) > 0 {
			t.Errorf("Gen is %d, want %d; not flushed are %v", g.gen(), gen, g.d.Dirty())
		}
		g.mount()
	}
	g.do(create(1, "/f"))
	g.do(write(1, "/f", 0, "abc"))
	g.do(snapshot(1))
	g.mount()
	if g.gen() != 7 || len(g.records()) != 0 || len(g.d.Dirty()) > 0 {
		t.Error(g.gen(), g.records(), g.d.Dirty())
	}
	s, _ := super.Load(g.d)
	if s.Next != 3 || !slices.Equal(s.Versions, g.g.Versions()) || len(s.Versions) != 2 {
		t.Errorf("the superblock is %v, the versions are %v", s, g.g.Versions())
	}
	g.reads(2, "/f", "abc")
}

// P19.2: what is kept is taken, and its chunks are known.
func TestWhatIsKept(t *testing.T) {
	g := newGround(t, 300)
	data := noise(1, 1000)
	g.do(mkdir(1, "/d"))
	g.do(create(1, "/d/f"))
	g.do(write(1, "/d/f", 0, data))
	g.do(clone(1))
	g.do(write(2, "/d/f", 0, "other"))
	g.do(snapshot(2))
	g.checkpoint()
	g.mount()
	used := g.used()
	if free := g.g.Free(); free != 250-len(used) || len(used) < 6 {
		t.Errorf("%d blocks are free, %d in use", free, len(used))
	}
	free := g.g.Free()
	g.do(create(2, "/again"))
	created := free - g.g.Free()
	g.do(write(2, "/again", 0, data))
	// The tree has one level or two: no chunk's block is taken.
	if took := free - created - g.g.Free(); took > 2*created || took > 6 {
		t.Errorf("%d blocks were taken, for a file %d", took, created)
	}
	g.reads(1, "/d/f", data)
	g.reads(2, "/again", data)
	g.reads(2, "/d/f", "other"+data[5:])
	g.reads(3, "/d/f", "other"+data[5:])
	g.refuses(api.ErrNone, read(3, "/again", 0, 1))
}

// P19.3: no such version, no such operation.
func TestNoSuchOperation(t *testing.T) {
	g := newGround(t, 128)
	for _, v := range []int{math.MinInt, -1, 0, 2, 1 << 32, 1<<32 + 1, math.MaxInt} {
		for kind := api.OpMkdir; kind <= api.OpStat; kind++ {
			g.refuses(api.ErrVersion, api.Op{Kind: kind, Version: v, Path: "/f", To: "/g", Data: []byte("x")})
		}
		g.refuses(api.ErrVersion, api.Op{Kind: 99, Version: v})
		g.refuses(api.ErrVersion, api.Op{Version: v})
		for _, kind := range []int{api.OpVersions, api.OpSync} {
			g.do(api.Op{Kind: kind, Version: v})
		}
	}
	for _, kind := range []int{math.MinInt, -1, 0, 15, 99, math.MaxInt} {
		g.refuses(api.ErrOp, api.Op{Kind: kind, Version: 1, Path: "/f"})
	}
	if len(g.records()) > 0 {
		t.Error("what was refused is in the journal")
	}
}

// P19.3: what is told of files.
func TestTold(t *testing.T) {
	g := newGround(t, 128)
	g.do(mkdir(1, "/d"))
	g.do(create(1, "/d/b"))
	g.do(create(1, "/d/a"))
	g.do(write(1, "/d/a", 2, "xyz"))
	for _, c := range []struct {
		x    api.Op
		want api.Reply
	}{
		{read(1, "/d/a", 0, 9), api.Reply{Data: []byte("\x00\x00xyz")}},
		{read(1, "/d/a", 3, 1), api.Reply{Data: []byte("y")}},
		{read(1, "/d/a", 9, 1), api.Reply{}},
		{read(1, "/d/a", 0, math.MaxInt), api.Reply{Data: []byte("\x00\x00xyz")}},
		{read(1, "/d/a", -1, 1), api.Reply{Code: api.ErrArg}},
		{read(1, "/d/a", 0, -1), api.Reply{Code: api.ErrArg}},
		{read(1, "/d", 0, 1), api.Reply{Code: api.ErrDir}},
		{read(1, "d", 0, 1), api.Reply{Code: api.ErrPath}},
		{list(1, "/"), api.Reply{Names: []string{"d"}}},
		{list(1, "/d"), api.Reply{Names: []string{"a", "b"}}},
		{list(1, "/d/a"), api.Reply{Code: api.ErrFile}},
		{list(1, "/e"), api.Reply{Code: api.ErrNone}},
		{stat(1, "/"), api.Reply{Value: -1}},
		{stat(1, "/d"), api.Reply{Value: -1}},
		{stat(1, "/d/a"), api.Reply{Value: 5}},
		{stat(1, "/d/b"), api.Reply{}},
		{stat(1, "/d/c"), api.Reply{Code: api.ErrNone}},
		{stat(1, "/d/a/c"), api.Reply{Code: api.ErrFile}},
		{versions(), api.Reply{Names: []string{"1"}}},
	} {
		// What an operation has no use for changes nothing.
		for _, x := range []api.Op{c.x, spoiled(c.x)} {
			r := g.g.Do(x)
			if r.Code != c.want.Code || r.Value != c.want.Value || !bytes.Equal(r.Data, c.want.Data) || !slices.Equal(r.Names, c.want.Names) {
				t.Errorf("%v is answered %v, want %v", x, r, c.want)
			}
		}
	}
}

// spoiled is an operation with all that it has no use for.
func spoiled(x api.Op) api.Op {
	uses := func(kinds ...int) bool { return slices.Contains(kinds, x.Kind) }
	if uses(api.OpVersions, api.OpSync) {
		x.Version = 77
	}
	if uses(api.OpSnapshot, api.OpClone, api.OpDrop, api.OpVersions, api.OpSync) {
		x.Path = noise(1, 20000)
	}
	if !uses(api.OpRename) {
		x.To = noise(2, 20000)
	}
	if !uses(api.OpRead, api.OpWrite) {
		x.Off = -5
	}
	if !uses(api.OpRead, api.OpTruncate) {
		x.Len = -5
	}
	if !uses(api.OpWrite) {
		x.Data = []byte(noise(3, 20000))
	}
	return x
}

// P19.3: the disk is flushed by OpSync, and by nothing else that is told.
func TestSync(t *testing.T) {
	g := newGround(t, 128)
	g.do(create(1, "/f"))
	for _, x := range []api.Op{read(1, "/f", 0, 1), list(1, "/"), stat(1, "/f"), versions()} {
		g.do(x)
		if !slices.Equal(g.d.Dirty(), []int{2}) {
			t.Errorf("behind %v not flushed are %v", x, g.d.Dirty())
		}
	}
	gen := g.gen()
	g.do(sync())
	if len(g.d.Dirty()) > 0 || g.gen() != gen || len(g.records()) != 1 {
		t.Error(g.d.Dirty(), g.gen(), len(g.records()))
	}
}

// P19.4: each error of files goes up, and then nothing has changed.
func TestRefused(t *testing.T) {
	g, twin := newGround(t, 200), newGround(t, 200)
	for _, each := range []*ground{g, twin} {
		each.do(mkdir(1, "/d"))
		each.do(create(1, "/d/f"))
		each.do(write(1, "/d/f", 0, noise(1, 700)))
		each.do(snapshot(1))
	}
	long := "/" + strings.Repeat("n", 30000)
	refused := map[api.Errno][]api.Op{
		api.ErrArg:      {write(1, "/d/f", -1, "x"), truncate(1, "/d/f", -1), write(1, "/no", math.MinInt, "")},
		api.ErrBig:      {write(1, "/d/f", 8192, "x"), write(1, "/d/f", 0, noise(1, 1025)), write(1, "/d/f", 0, noise(1, 20000)), truncate(1, "/d/f", 8193), truncate(1, "", math.MaxInt)},
		api.ErrPath:     {mkdir(1, ""), create(1, "/d/"), write(1, "f", 0, "x"), truncate(1, long, 1), rename(1, "/d", long), rename(1, "//", "/x"), unlink(1, long)},
		api.ErrNone:     {mkdir(1, "/e/f"), create(1, "/e/f"), write(1, "/f", 0, "x"), truncate(1, "/f", 1), rename(1, "/f", "/g"), unlink(1, "/f")},
		api.ErrExists:   {mkdir(1, "/"), create(1, "/d"), mkdir(1, "/d/f"), rename(1, "/d/f", "/d")},
		api.ErrDir:      {write(1, "/d", 0, "x"), truncate(1, "/d", 1)},
		api.ErrFile:     {mkdir(1, "/d/f/g"), unlink(1, "/d/f/g"), rename(1, "/d/f/g", "/x")},
		api.ErrNotEmpty: {unlink(1, "/d")},
		api.ErrLoop:     {unlink(1, "/"), rename(1, "/d", "/d/e"), rename(1, "/", "/x")},
		api.ErrFixed: {mkdir(2, "/e"), create(2, "/e"), write(2, "/d/f", 0, "x"), truncate(2, "/d/f", 0), rename(2, "/d", "/e"), unlink(2, "/d/f"),
			mkdir(2, ""), write(2, "/d/f", -1, "x"), unlink(2, "/no")},
		api.ErrVersion: {mkdir(3, "/e"), snapshot(0), clone(-1), drop(7)},
	}
	for code, all := range refused {
		for _, x := range all {
			was, free, records := sectors(g.d), g.g.Free(), len(g.records())
			g.refuses(code, x)
			if sectors(g.d) != was || g.g.Free() != free || len(g.records()) != records {
				t.Errorf("%v was refused, and changed something", x.Kind)
			}
		}
	}
	// What came in between is not to be seen in what comes later.
	for _, each := range []*ground{g, twin} {
		each.do(write(1, "/d/f", 300, noise(2, 1000)))
		each.do(create(1, "/d/g"))
		each.do(clone(2))
		each.checkpoint()
	}
	if sectors(g.d) != sectors(twin.d) || g.g.Free() != twin.g.Free() {
		t.Error("the disks are not alike")
	}
}

// P19.4: what was taken ahead of a refusal is let go, and its chunks are not known.
func TestNoRoom(t *testing.T) {
	refused := 0
	for sizes := range 12 {
		g, twin := newGround(t, 128), newGround(t, 128)
		for _, each := range []*ground{g, twin} {
			for i := 0; each.g.Free() > 4+sizes; i++ {
				each.do(create(1, fmt.Sprintf("/%d", i)))
			}
			each.checkpoint()
		}
		free := g.g.Free()
		for i := range 10 {
			was := g.told()
			x := write(1, "/0", 0, noise(int64(sizes), 100*i+20))
			r := g.g.Do(x)
			if r.Code == api.OK {
				break
			}
			refused++
			if r.Code != api.ErrSpace || g.g.Free() != free || g.told() != was || len(g.records()) > 0 {
				t.Errorf("answered is %v, %d blocks are free, want %d", r, g.g.Free(), free)
			}
			g.do(snapshot(1))
			g.do(drop(g.g.Next() - 1))
			twin.do(snapshot(1))
			twin.do(drop(twin.g.Next() - 1))
			for _, each := range []*ground{g, twin} {
				each.checkpoint()
			}
			if sectors(g.d) != sectors(twin.d) {
				t.Fatal("a refused operation is to be seen")
			}
		}
	}
	if refused < 12 {
		t.Errorf("only %d operations were refused", refused)
	}
}

// P19.4: OpSnapshot, OpClone and OpDrop need no room.
func TestVersionsNeedNoRoom(t *testing.T) {
	g := newGround(t, 128)
	g.do(create(1, "/f"))
	for i := range 2 * 78 { // of two chunks that are known, each write takes one block, for the tree
		if g.g.Do(write(1, "/f", 0, []string{"a", "b"}[i%2])).Code != api.OK {
			break
		}
	}
	g.checkpoint()
	if free := g.g.Free(); free != 0 {
		t.Errorf("%d blocks are free", free)
	}
	g.refuses(api.ErrSpace, create(1, "/g"))
	for range 7 {
		g.do(clone(1))
	}
	g.refuses(api.ErrVersions, snapshot(1))
	for _, v := range g.g.Versions()[1:] {
		g.do(drop(v.ID))
	}
	for range 7 {
		g.do(snapshot(1))
	}
	for _, v := range g.g.Versions() {
		g.do(drop(v.ID))
	}
	g.hasVersions()
	g.mount()
	g.hasVersions()
	if g.g.Free() != 76 { // the superblock had one version yet: a leaf and a chunk
		t.Errorf("%d blocks are free", g.g.Free())
	}
	g.collect()
	g.checkpoint()
	if g.g.Free() != 78 {
		t.Errorf("%d blocks are free", g.g.Free())
	}
}

// P19.4: versions
func TestVersions(t *testing.T) {
	g := newGround(t, 200)
	g.do(create(1, "/f"))
	g.do(write(1, "/f", 0, "one"))
	for i, x := range []api.Op{snapshot(1), clone(1), snapshot(2), clone(2), snapshot(3)} {
		free := g.g.Free()
		if r := g.do(x); r.Value != i+2 || len(r.Data) > 0 || len(r.Names) > 0 || g.g.Next() != i+3 || g.g.Free() != free {
			t.Errorf("%v is answered %v; Next is %d", x, r, g.g.Next())
		}
	}
	g.hasVersions("1", "2!", "3", "4!", "5", "6!")
	root := g.g.Versions()[0].Root
	for _, v := range g.g.Versions() {
		if v.Root != root || v.Next != 2 {
			t.Errorf("a version is %v", v)
		}
	}
	g.do(write(1, "/f", 3, "!"))
	g.do(write(3, "/f", 0, "T"))
	g.do(create(5, "/g"))
	check := func() {
		t.Helper()
		for v, want := range map[int]string{1: "one!", 2: "one", 3: "Tne", 4: "one", 5: "one", 6: "one"} {
			g.reads(v, "/f", want)
		}
		g.lists(4, "/", "f")
		g.lists(5, "/", "f", "g")
		if g.g.Next() != 7 {
			t.Errorf("Next is %d", g.g.Next())
		}
	}
	check()
	g.mount()
	check()
	g.do(drop(2))
	g.do(drop(1))
	g.hasVersions("3", "4!", "5", "6!")
	g.refuses(api.ErrVersion, read(1, "/f", 0, 9))
	g.refuses(api.ErrVersion, drop(1))
	for range 4 {
		g.do(clone(6))
	}
	g.hasVersions("3", "4!", "5", "6!", "7", "8", "9", "10")
	g.refuses(api.ErrVersions, clone(3))
	g.refuses(api.ErrVersions, snapshot(4))
	if g.g.Next() != 11 {
		t.Errorf("Next is %d", g.g.Next())
	}
	g.do(drop(10))
	if r := g.do(snapshot(3)); r.Value != 11 {
		t.Errorf("the snapshot is %d", r.Value)
	}
	g.reads(11, "/f", "Tne")
}

// with is a ground whose superblock is another one.
func (g *ground) with(other func(s *api.Super)) *ground {
	g.t.Helper()
	g.checkpoint()
	s, e := super.Load(g.d)
	if e != api.OK {
		g.t.Fatal(e)
	}
	d := g.d.Copy()
	for at := range 2 {
		d.Write(at, make([]byte, 256))
	}
	other(&s)
	if e := super.Save(d, s); e != api.OK {
		g.t.Fatal(e)
	}
	return &ground{t: g.t, d: d}
}

// P19.4: the last IDs.
func TestNoIDIsLeft(t *testing.T) {
	g := newGround(t, 128).with(func(s *api.Super) { s.Next = api.MaxNumber - 1 })
	g.mount()
	if r := g.do(clone(1)); r.Value != api.MaxNumber-1 || g.g.Next() != api.MaxNumber {
		t.Errorf("answered is %v; Next is %d", r, g.g.Next())
	}
	g.refuses(api.ErrBig, clone(1))
	g.refuses(api.ErrBig, snapshot(api.MaxNumber-1))
	g.do(create(api.MaxNumber-1, "/f"))
	g.mount()
	g.hasVersions("1", fmt.Sprint(api.MaxNumber-1))
	g.lists(api.MaxNumber-1, "/", "f")
	g.refuses(api.ErrBig, clone(1))
}

// P19.2, P19.4, P19.5: the last Gens.
func TestNoGenIsLeft(t *testing.T) {
	last := newGround(t, 128).with(func(s *api.Super) { s.Gen = api.MaxNumber })
	was := sectors(last.d)
	last.isNoMount(api.ErrBig)
	if x, e := engine.Mount(last.d); x != nil || e != api.ErrBig || sectors(last.d) != was {
		t.Error(x, e)
	}
	g := newGround(t, 400).with(func(s *api.Super) { s.Gen = api.MaxNumber - 1 })
	g.mount()
	if g.gen() != api.MaxNumber {
		t.Errorf("Gen is %d", g.gen())
	}
	g.do(create(1, "/f"))
	was = sectors(g.d)
	if e := g.g.Checkpoint(); e != api.ErrBig || sectors(g.d) != was {
		t.Error("a checkpoint is answered ", e)
	}
	for i := range 47 {
		g.do(write(1, "/f", i, "x"))
	}
	free := g.g.Free()
	g.refuses(api.ErrBig, write(1, "/f", 0, "y"))
	g.refuses(api.ErrBig, clone(1))
	g.refuses(api.ErrBig, drop(1))
	// The errors that are named ahead of this one come ahead of it.
	g.refuses(api.ErrNone, write(1, "/g", 0, "y"))
	g.refuses(api.ErrVersion, clone(2))
	g.reads(1, "/f", strings.Repeat("x", 47))
	g.hasVersions("1")
	if g.g.Free() != free || g.g.Next() != 2 || len(g.records()) != 48 {
		t.Error(g.g.Free(), g.g.Next(), len(g.records()))
	}
}

// P19.5
func TestCheckpoint(t *testing.T) {
	g := newGround(t, 200)
	g.do(create(1, "/f"))
	g.do(write(1, "/f", 0, noise(1, 900)))
	g.do(snapshot(1))
	if !slices.Equal(g.d.Dirty(), []int{2, 3, 4, 5, 6, 7}) {
		t.Errorf("written are %v", g.d.Dirty())
	}
	was, gen := g.told(), g.gen()
	g.checkpoint()
	s, _ := super.Load(g.d)
	if s.Gen != gen+1 || s.Next != 3 || !slices.Equal(s.Versions, g.g.Versions()) || len(g.d.Dirty()) > 0 || len(g.records()) > 0 {
		t.Errorf("the superblock is %v", s)
	}
	g.do(unlink(1, "/f"))
	if !slices.Equal(g.d.Dirty(), []int{2}) || len(g.records()) != 1 {
		t.Errorf("written are %v", g.d.Dirty())
	}
	g.d.Power(nil)
	g.mount()
	if g.told() != was {
		t.Errorf("told are %s, were %s", g.told(), was)
	}
	g.checkpoint()
	g.checkpoint()
	if g.gen() != gen+4 || g.told() != was {
		t.Errorf("Gen is %d, want %d", g.gen(), gen+4)
	}
	if n := g.g.Size(); n != 200 {
		t.Errorf("the size is %d", n)
	}
}

// P19.4: a checkpoint comes first where the journal has no room for a record without one.
func TestFullJournal(t *testing.T) {
	g := newGround(t, 400)
	g.do(create(1, "/f"))
	g.do(snapshot(1))
	g.checkpoint()
	gen := g.gen()
	wants := func(records, behind int) {
		t.Helper()
		if n := len(g.records()); n != records || g.gen() != gen+behind {
			t.Fatalf("the journal has %d records, want %d; Gen is %d, want %d", n, records, g.gen(), gen+behind)
		}
	}
	for range 47 {
		g.do(write(1, "/f", 0, ""))
	}
	wants(47, 0)
	// Two sectors are too many, and more than all of them are, too: then no checkpoint helps.
	g.refuses(api.ErrPath, unlink(1, "/"+strings.Repeat("n", 48*232)))
	g.refuses(api.ErrBig, write(1, "/f", 0, noise(1, 20000)))
	wants(47, 0)
	g.do(write(1, "/f", 1, noise(1, 232-9-5))) // 9 bytes, and lengths of 1, 1 and 2; the path has 2
	wants(1, 1)
	for range 45 {
		g.do(truncate(1, "/f", 1))
	}
	wants(46, 1)
	g.do(write(1, "/f", 0, noise(1, 232-9-6)))
	wants(47, 1)
	g.refuses(api.ErrOp, api.Op{Kind: 77, Version: 1})
	g.do(read(1, "/f", 0, 10))
	g.do(sync())
	wants(47, 1)
	// What is refused may come behind one.
	for i, x := range []api.Op{unlink(2, "/f"), unlink(1, "/g"), mkdir(1, "/"), truncate(1, "/f", -1), drop(3), mkdir(1, "/"+strings.Repeat("n", 48*232-9-5-1))} {
		if r := g.g.Do(x); r.Code == api.OK {
			t.Fatalf("%v is answered %v", x.Kind, r)
		}
		wants(0, 2+i)
		for range 48 {
			g.do(truncate(1, "/f", 1))
		}
		wants(48, 2+i)
	}
}

// P19.4: a record of all of the journal's sectors has room in it.
func TestRecordOfAllSectors(t *testing.T) {
	g := newGround(t, 128)
	gen := g.gen()
	path := "/" + strings.Repeat("n", 48*232-9-1-1-2-1) // ahead of it a length of 2 bytes, behind it two of 1
	g.do(create(1, "/f"))
	g.refuses(api.ErrPath, mkdir(1, path+"n"))
	if g.gen() != gen {
		t.Error("one sector more than all was made room for")
	}
	g.refuses(api.ErrPath, mkdir(1, path))
	if g.gen() != gen+1 {
		t.Error("all sectors were not made room for")
	}
	g.refuses(api.ErrPath, mkdir(1, path))
	if g.gen() != gen+1 {
		t.Error("there was room for all sectors")
	}
}

// P19.4: with 300 free blocks nothing is refused for want of room.
func TestNoErrSpaceWhere300AreFree(t *testing.T) {
	g := newGround(t, 4096)
	chance := rand.New(rand.NewSource(1))
	for i := range 8 {
		g.do(create(1, fmt.Sprintf("/%d", i)))
	}
	for i := 0; g.g.Free() >= 300; i++ {
		path := fmt.Sprintf("/%d", chance.Intn(8))
		switch chance.Intn(6) {
		case 0:
			g.do(truncate(1, path, chance.Intn(8193)))
		case 1:
			path += "x" + fmt.Sprint(i)
			g.do(mkdir(1, path))
			g.do(create(1, path+"/a"))
			g.do(rename(1, path, path+"y"))
		default:
			g.do(write(1, path, chance.Intn(8192-1024), noise(int64(i), 1024)))
		}
	}
	if n := g.g.Free(); n > 300 || n < 200 {
		t.Errorf("%d blocks are free", n)
	}
}

// R4: what is handed in is not kept, what is answered is new memory.
func TestMemory(t *testing.T) {
	g := newGround(t, 200)
	g.do(create(1, "/f"))
	data := []byte("abcdef")
	g.do(api.Op{Kind: api.OpWrite, Version: 1, Path: "/f", Data: data[:3]})
	if string(data) != "abcdef" {
		t.Errorf("what was handed in is %q now", data)
	}
	copy(data, "xxxxxx")
	g.reads(1, "/f", "abc")
	for range 2 {
		r := g.do(read(1, "/f", 0, 9))
		copy(r.Data, "zzz")
		_ = append(r.Data, "zzz"...)
		r = g.do(list(1, "/"))
		r.Names[0] = "zzz"
		r = g.do(versions())
		r.Names[0] = "zzz"
		all := g.g.Versions()
		all[0] = api.Version{ID: 9}
		_ = append(all, api.Version{ID: 10})
		b, e := g.g.Load(g.g.Versions()[0].Root)
		if e != api.OK {
			t.Fatal(e)
		}
		clear(b.Body)
		g.reads(1, "/f", "abc")
		g.lists(1, "/", "f")
		g.hasVersions("1")
		g.do(snapshot(1))
		g.do(drop(g.g.Next() - 1))
	}
	g.mount()
	g.reads(1, "/f", "abc")
	// Nil and empty are one.
	if a, b := g.g.Do(write(1, "/f", 3, "")), g.g.Do(api.Op{Kind: api.OpWrite, Version: 1, Path: "/f", Off: 3}); a.Code != api.OK || b.Code != api.OK {
		t.Error(a, b)
	}
	if all := g.records(); !bytes.Equal(all[0], all[1]) {
		t.Errorf("the records are %x", all)
	}
}
