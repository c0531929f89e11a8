package gc_test

import (
	"fmt"
	"maps"
	"math/rand"
	"slices"
	"strings"
	"testing"

	"kist/api"
	"kist/disk"
	"kist/engine"
	"kist/gc"
	"kist/node"
)

// ground is an engine with a collector, and the disk that they stand on.
type ground struct {
	t *testing.T
	d *disk.Disk
	g *engine.Engine
	c *gc.Collector
}

// newGround is one on a disk that was formatted.
func newGround(t *testing.T, sectors int) *ground {
	t.Helper()
	d, e := disk.New(sectors)
	if e != api.OK {
		t.Fatal(e)
	}
	if e := engine.Format(d); e != api.OK {
		t.Fatal(e)
	}
	return mounted(t, d)
}

// mounted is a ground on a disk, with a collector that rests.
func mounted(t *testing.T, d *disk.Disk) *ground {
	t.Helper()
	g, e := engine.Mount(d)
	if e != api.OK {
		t.Fatal(e)
	}
	c, e := gc.New(g)
	if e != api.OK || c == nil {
		t.Fatal(e)
	}
	return &ground{t, d, g, c}
}

// do does what is not to be refused.
func (g *ground) do(x api.Op) api.Reply {
	g.t.Helper()
	r := g.g.Do(x)
	if r.Code != api.OK {
		g.t.Fatalf("%v is answered %v", x, r)
	}
	return r
}

// step does a step that is not to be refused: whether a cycle is done.
func (g *ground) step() bool {
	g.t.Helper()
	done, e := g.c.Step()
	if e != api.OK {
		g.t.Fatal(e)
	}
	return done
}

// steps does some that end no cycle, and wants a phase behind them.
func (g *ground) steps(many, phase int) {
	g.t.Helper()
	for range many {
		if g.step() {
			g.t.Fatal("the cycle is done")
		}
	}
	g.isIn(phase)
}

func (g *ground) isIn(phase int) {
	g.t.Helper()
	if got := g.c.Phase(); got != phase {
		g.t.Fatalf("Phase() = %d, want %d", got, phase)
	}
}

// cycle does all steps up to the end of a cycle: how many these are. (P20.4)
func (g *ground) cycle() int {
	g.t.Helper()
	for n := 1; ; n++ {
		if g.step() {
			g.isIn(0)
			return n
		}
		if n == 2*(g.d.Size()-50)+3 {
			g.t.Fatalf("%d steps, and the cycle is not done", n)
		}
	}
}

// refuses wants a step to be refused, and the collector to rest then.
func (g *ground) refuses(want api.Errno) {
	g.t.Helper()
	if done, e := g.c.Step(); done || e != want {
		g.t.Fatalf("Step() = %v, %v, want %v", done, e, want)
	}
	g.isIn(0)
}

func (g *ground) checkpoint() {
	g.t.Helper()
	if e := g.g.Checkpoint(); e != api.OK {
		g.t.Fatal(e)
	}
}

// isTight wants just the blocks to be taken that are in use. (P20.5)
func (g *ground) isTight() {
	g.t.Helper()
	if free, used := g.g.Free(), len(g.used()); free != g.d.Size()-50-used {
		g.t.Fatalf("%d blocks are free, %d of %d in use", free, used, g.d.Size()-50)
	}
}

// used is the blocks that are in use by some version, rising.
func (g *ground) used() []int {
	g.t.Helper()
	seen := map[int]struct{}{}
	var come func(n int)
	come = func(n int) {
		if _, is := seen[n]; n == 0 || is {
			return
		}
		seen[n] = struct{}{}
		b, e := g.g.Load(n)
		if e != api.OK {
			g.t.Fatal(n, e)
		}
		switch b.Kind {
		case api.KindChunk:
			for at := range int(b.Body[4]) {
				come(int(b.Body[5+2*at]) + int(b.Body[6+2*at])<<8)
			}
		case api.KindLeaf, api.KindInner:
			x, e := node.Get(b)
			if e != api.OK {
				g.t.Fatal(n, e)
			}
			for _, kid := range x.Kids {
				come(kid)
			}
			for i, key := range x.Keys {
				if x.Leaf && key[0] == 'x' {
					come(int(x.Vals[i][0])<<8 + int(x.Vals[i][1]))
				}
			}
		}
	}
	for _, v := range g.g.Versions() {
		come(v.Root)
	}
	return slices.Sorted(maps.Keys(seen))
}

// ofKind is those of the blocks in use that are of a kind, rising.
func (g *ground) ofKind(kind int) []int {
	g.t.Helper()
	return slices.DeleteFunc(g.used(), func(n int) bool {
		b, _ := g.g.Load(n)
		return b.Kind != kind
	})
}

// told is all that is told of all versions.
func (g *ground) told() string {
	g.t.Helper()
	var out strings.Builder
	for _, name := range g.do(api.Op{Kind: api.OpVersions}).Names {
		var id int
		fmt.Sscan(strings.TrimSuffix(name, "!"), &id)
		fmt.Fprintf(&out, "%s:", name)
		g.tell(&out, id, "")
	}
	fmt.Fprintf(&out, "next %d", g.g.Next())
	return out.String()
}

// tell tells what stands below a path of a version, of which / is "".
func (g *ground) tell(out *strings.Builder, v int, path string) {
	for _, name := range g.do(of(api.OpList, v, path+strings.Repeat("/", 1-min(len(path), 1)))).Names {
		at := path + "/" + name
		if g.do(of(api.OpStat, v, at)).Value < 0 {
			fmt.Fprintf(out, "%s/;", at)
			g.tell(out, v, at)
			continue
		}
		fmt.Fprintf(out, "%s=%q;", at, g.do(api.Op{Kind: api.OpRead, Version: v, Path: at, Len: 9000}).Data)
	}
}

// sectors is all that a disk has.
func sectors(d *disk.Disk) string {
	var out strings.Builder
	for at := range d.Size() {
		data, _ := d.Read(at)
		out.Write(data)
	}
	return out.String()
}

// of is an operation that needs a path at most.
func of(kind, v int, path string) api.Op { return api.Op{Kind: kind, Version: v, Path: path} }

func write(v int, path string, off int, data string) api.Op {
	return api.Op{Kind: api.OpWrite, Version: v, Path: path, Off: off, Data: []byte(data)}
}

func rename(v int, path, to string) api.Op {
	return api.Op{Kind: api.OpRename, Version: v, Path: path, To: to}
}

func truncate(v int, path string, many int) api.Op {
	return api.Op{Kind: api.OpTruncate, Version: v, Path: path, Len: many}
}

// noise is bytes that are not packed to fewer.
func noise(seed int64, many int) string {
	data := make([]byte, many)
	rand.New(rand.NewSource(seed)).Read(data)
	return string(data)
}
