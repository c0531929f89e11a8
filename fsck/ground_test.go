package fsck_test

import (
	"fmt"
	"math/rand"
	"slices"
	"strings"
	"testing"

	"kist/api"
	"kist/disk"
	"kist/engine"
	"kist/fsck"
	"kist/gc"
)

// ground is an engine with a collector, and the disk that they stand on.
type ground struct {
	t *testing.T
	d *disk.Disk
	g *engine.Engine
	c *gc.Collector
}

// newGround is one on a disk that was formatted.
func newGround(t *testing.T, sectors int) *ground {
	t.Helper()
	d, e := disk.New(sectors)
	if e != api.OK {
		t.Fatal(e)
	}
	if e := engine.Format(d); e != api.OK {
		t.Fatal(e)
	}
	return mounted(t, d)
}

func mounted(t *testing.T, d *disk.Disk) *ground {
	t.Helper()
	g, e := engine.Mount(d)
	if e != api.OK {
		t.Fatal(e)
	}
	c, e := gc.New(g)
	if e != api.OK {
		t.Fatal(e)
	}
	return &ground{t, d, g, c}
}

// do does what is not to be refused.
func (g *ground) do(x api.Op) api.Reply {
	g.t.Helper()
	r := g.g.Do(x)
	if r.Code != api.OK {
		g.t.Fatalf("%v is answered %v", x, r)
	}
	return r
}

func (g *ground) checkpoint() {
	g.t.Helper()
	if e := g.g.Checkpoint(); e != api.OK {
		g.t.Fatal(e)
	}
}

// checked wants a disk to be well formed, to have this, and to be as it was then.
func checked(t *testing.T, d *disk.Disk, want fsck.Report) {
	t.Helper()
	was := d.Copy()
	if r, e := fsck.Check(d); r != want || e != api.OK {
		t.Fatalf("Check() = %v, %v, want %v", r, e, want)
	}
	isAsItWas(t, d, was)
}

// isRefused wants a disk not to be well formed, and to be as it was then.
func isRefused(t *testing.T, d *disk.Disk, about any) {
	t.Helper()
	was := d.Copy()
	if r, e := fsck.Check(d); r != (fsck.Report{}) || e != api.ErrImage {
		t.Fatalf("%v: Check() = %v, %v, want ErrImage", about, r, e)
	}
	isAsItWas(t, d, was)
}

// isAsItWas wants a disk to have what another one has, and to have as much of it not flushed.
func isAsItWas(t *testing.T, d, was *disk.Disk) {
	t.Helper()
	if sectors(d) != sectors(was) || !slices.Equal(d.Dirty(), was.Dirty()) {
		t.Fatal("something was written")
	}
	d, was = d.Copy(), was.Copy()
	d.Power(nil)
	was.Power(nil)
	if sectors(d) != sectors(was) {
		t.Fatal("something was written, or flushed")
	}
}

// sectors is all that a disk has.
func sectors(d *disk.Disk) string {
	var out strings.Builder
	for at := range d.Size() {
		data, _ := d.Read(at)
		out.Write(data)
	}
	return out.String()
}

// told is all that an engine tells of all versions, and how many directories and files these have.
func (g *ground) told() (string, fsck.Report) {
	g.t.Helper()
	var out strings.Builder
	var r fsck.Report
	for _, name := range g.do(api.Op{Kind: api.OpVersions}).Names {
		var id int
		fmt.Sscan(strings.TrimSuffix(name, "!"), &id)
		fmt.Fprintf(&out, "%s:", name)
		r.Versions++
		g.tell(&out, &r, id, "")
	}
	fmt.Fprintf(&out, "next %d", g.g.Next())
	return out.String(), r
}

// tell tells what stands below a path of a version, of which / is "".
func (g *ground) tell(out *strings.Builder, r *fsck.Report, v int, path string) {
	g.t.Helper()
	for _, name := range g.do(of(api.OpList, v, path+strings.Repeat("/", 1-min(len(path), 1)))).Names {
		at := path + "/" + name
		size := g.do(of(api.OpStat, v, at)).Value
		if size < 0 {
			fmt.Fprintf(out, "%s/;", at)
			r.Dirs++
			g.tell(out, r, v, at)
			continue
		}
		r.Files++
		fmt.Fprintf(out, "%s=%q;", at, g.do(api.Op{Kind: api.OpRead, Version: v, Path: at, Len: size}).Data)
	}
}

// of is an operation that needs a path at most.
func of(kind, v int, path string) api.Op { return api.Op{Kind: kind, Version: v, Path: path} }

func write(v int, path string, off int, data string) api.Op {
	return api.Op{Kind: api.OpWrite, Version: v, Path: path, Off: off, Data: []byte(data)}
}

func rename(v int, path, to string) api.Op {
	return api.Op{Kind: api.OpRename, Version: v, Path: path, To: to}
}

func truncate(v int, path string, many int) api.Op {
	return api.Op{Kind: api.OpTruncate, Version: v, Path: path, Len: many}
}

// noise is bytes that are not packed to fewer.
func noise(seed int64, many int) string {
	data := make([]byte, many)
	rand.New(rand.NewSource(seed)).Read(data)
	return string(data)
}
