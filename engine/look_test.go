package engine_test

import (
	"fmt"
	"maps"
	"slices"
	"strings"

	"kist/api"
	"kist/block"
	"kist/node"
	"kist/super"
)

// told is all that is told of all versions.
func (g *ground) told() string {
	g.t.Helper()
	var out strings.Builder
	for _, name := range g.do(versions()).Names {
		var id int
		fmt.Sscan(strings.TrimSuffix(name, "!"), &id)
		fmt.Fprintf(&out, "%s:", name)
		g.tell(&out, id, "")
	}
	fmt.Fprintf(&out, "next %d", g.g.Next())
	return out.String()
}

// tell tells what stands below a path of a version, of which / is "".
func (g *ground) tell(out *strings.Builder, v int, path string) {
	for _, name := range g.do(list(v, path+strings.Repeat("/", 1-min(len(path), 1)))).Names {
		at := path + "/" + name
		size := g.do(stat(v, at)).Value
		if size < 0 {
			fmt.Fprintf(out, "%s/;", at)
			g.tell(out, v, at)
			continue
		}
		data := g.do(read(v, at, 0, 9000)).Data
		if len(data) != size {
			g.t.Fatalf("%s has %d bytes, and %d are read", at, size, len(data))
		}
		fmt.Fprintf(out, "%s=%q;", at, data)
	}
}

// used is the blocks that are in use by some version, rising.
func (g *ground) used() []int {
	g.t.Helper()
	return g.reached(g.g.Versions(), g.g.Load)
}

// kept is the blocks of what the superblock says, rising.
func (g *ground) kept() []int {
	g.t.Helper()
	s, e := super.Load(g.d)
	if e != api.OK {
		g.t.Fatal(e)
	}
	return g.reached(s.Versions, func(n int) (api.Block, api.Errno) {
		sector, e := g.d.Read(n)
		if e != api.OK {
			return api.Block{}, e
		}
		return block.Get(n, sector)
	})
}

// reached is the blocks that are come to from these versions, rising.
func (g *ground) reached(versions []api.Version, load func(n int) (api.Block, api.Errno)) []int {
	g.t.Helper()
	seen := map[int]struct{}{}
	var come func(n int)
	come = func(n int) {
		if _, is := seen[n]; n == 0 || is {
			return
		}
		seen[n] = struct{}{}
		b, e := load(n)
		if e != api.OK {
			g.t.Fatal(n, e)
		}
		switch b.Kind {
		case api.KindChunk:
			for at := range int(b.Body[4]) {
				come(int(b.Body[5+2*at]) + int(b.Body[6+2*at])<<8)
			}
		case api.KindLeaf, api.KindInner:
			x, e := node.Get(b)
			if e != api.OK {
				g.t.Fatal(n, e)
			}
			for _, kid := range x.Kids {
				come(kid)
			}
			for i, key := range x.Keys {
				if x.Leaf && key[0] == 'x' {
					come(int(x.Vals[i][0])<<8 + int(x.Vals[i][1]))
				}
			}
		}
	}
	for _, v := range versions {
		come(v.Root)
	}
	return slices.Sorted(maps.Keys(seen))
}

// collect lets all blocks go that are not in use.
func (g *ground) collect() {
	g.t.Helper()
	used := g.used()
	for n := range g.d.Size() {
		if _, is := slices.BinarySearch(used, n); !is {
			g.g.Let(n)
		}
	}
}
