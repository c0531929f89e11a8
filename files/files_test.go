package files_test

import (
	"bytes"
	"fmt"
	"math"
	"slices"
	"strings"
	"testing"

	"kist/alloc"
	"kist/api"
	"kist/cache"
	"kist/chunks"
	"kist/disk"
	"kist/files"
	"kist/tree"
)

// ground is files, with all that they stand on.
type ground struct {
	t *testing.T
	d *disk.Disk
	c *cache.Cache
	m *alloc.Map
	x *tree.Tree
	s *chunks.Store
	f *files.Files
}

func newGround(t *testing.T, blocks, room int) *ground {
	t.Helper()
	d, e := disk.New(50 + blocks)
	c, f := cache.New(d, room)
	m, h := alloc.New(50, 50+blocks)
	if e != api.OK || f != api.OK || h != api.OK {
		t.Fatal(e, f, h)
	}
	x, e := tree.New(c, m)
	s, f := chunks.New(c, m)
	if e != api.OK || f != api.OK {
		t.Fatal(e, f)
	}
	l, e := files.New(x, s)
	if e != api.OK || l == nil {
		t.Fatalf("New() = %v, %v", l, e)
	}
	return &ground{t, d, c, m, x, s, l}
}

// empty is a version without anything.
func empty() api.Version { return api.Version{ID: 7, Next: 1, Fixed: true} }

func (g *ground) begin() {
	g.x.Begin()
	g.s.Begin()
}

// ok is the version that a call answers, that is not to be refused; nothing of it is new any more.
func (g *ground) ok(v api.Version, e api.Errno) api.Version {
	g.t.Helper()
	if e != api.OK || v.ID != 7 || !v.Fixed {
		g.t.Fatalf("answered are %v, %v", v, e)
	}
	g.begin()
	return v
}

// state is all that a refused call must leave as it is.
func (g *ground) state() string {
	return fmt.Sprint(g.x.Fresh(), g.s.Fresh(), g.s.Found(), g.s.Known(), g.m.Runs(), g.m.Free(), g.m.Dropped(), g.c.Dirty())
}

// refused wants a call to answer an error, and to change nothing.
func (g *ground) refused(want api.Errno) func(api.Version, api.Errno) {
	g.t.Helper()
	was := g.state()
	return func(v api.Version, e api.Errno) {
		g.t.Helper()
		if e != want || v != (api.Version{}) {
			g.t.Errorf("answered are %v, %v, want %v", v, e, want)
		}
		if got := g.state(); got != was {
			g.t.Errorf("a refused call made %s out of %s", got, was)
		}
	}
}

func (g *ground) dir(v api.Version, path string) api.Version {
	g.t.Helper()
	return g.ok(g.f.Make(v, path, true))
}

func (g *ground) file(v api.Version, path string) api.Version {
	g.t.Helper()
	return g.ok(g.f.Make(v, path, false))
}

// filled is a version with a file of these bytes.
func (g *ground) filled(v api.Version, path string, data []byte) api.Version {
	g.t.Helper()
	v = g.file(v, path)
	for at := 0; at < len(data); at += 1024 {
		v = g.ok(g.f.Write(v, path, at, data[at:min(at+1024, len(data))]))
	}
	return v
}

func (g *ground) lists(v api.Version, path string, want ...string) {
	g.t.Helper()
	if l, e := g.f.List(v, path); e != api.OK || !slices.Equal(l, want) {
		g.t.Errorf("List(%s) = %q, %v, want %q", path, l, e, want)
	}
}

func (g *ground) stats(v api.Version, path string, dir bool, size int) {
	g.t.Helper()
	if is, n, e := g.f.Stat(v, path); is != dir || n != size || e != api.OK {
		g.t.Errorf("Stat(%s) = %v, %d, %v, want %v, %d", path, is, n, e, dir, size)
	}
}

func (g *ground) reads(v api.Version, path string, off, n int, want []byte) {
	g.t.Helper()
	if data, e := g.f.Read(v, path, off, n); e != api.OK || !bytes.Equal(data, want) {
		g.t.Errorf("Read(%s, %d, %d) = %x, %v, want %x", path, off, n, data, e, want)
	}
}

// has wants a file to have these bytes.
func (g *ground) has(v api.Version, path string, want []byte) {
	g.t.Helper()
	g.stats(v, path, false, len(want))
	g.reads(v, path, 0, math.MaxInt, want)
}

// isAmiss wants all that only looks at a path to be refused.
func (g *ground) isAmiss(v api.Version, path string, stat, list, read api.Errno) {
	g.t.Helper()
	was := g.state()
	if dir, size, e := g.f.Stat(v, path); dir || size != 0 || e != stat {
		g.t.Errorf("Stat(%s) = %v, %d, %v, want %v", path, dir, size, e, stat)
	}
	if l, e := g.f.List(v, path); len(l) != 0 || e != list {
		g.t.Errorf("List(%s) = %q, %v, want %v", path, l, e, list)
	}
	if data, e := g.f.Read(v, path, 0, 1); len(data) != 0 || e != read {
		g.t.Errorf("Read(%s) = %x, %v, want %v", path, data, e, read)
	}
	if got := g.state(); got != was {
		g.t.Errorf("refused calls made %s out of %s", got, was)
	}
}

// some is a version with directories / and /d, /d/e and /d/e/h, and files /g, without bytes, and /d/f, of "abc".
func (g *ground) some() api.Version {
	g.t.Helper()
	v := g.dir(empty(), "/d")
	v = g.filled(v, "/d/f", []byte("abc"))
	v = g.dir(v, "/d/e")
	v = g.dir(v, "/d/e/h")
	return g.file(v, "/g")
}

// refusedPath is a path that can't be found among these, and why.
type refusedPath struct {
	path string
	want api.Errno
}

func refusedPaths() []refusedPath {
	return []refusedPath{
		{"", api.ErrPath}, {"d", api.ErrPath}, {"//", api.ErrPath}, {"/d/", api.ErrPath}, {"/d//f", api.ErrPath},
		{"/.", api.ErrPath}, {"/d/../g", api.ErrPath}, {"/d/f ", api.ErrPath}, {"/d\x00", api.ErrPath}, {"/\xff", api.ErrPath},
		{"/12345678901234567", api.ErrPath}, {"/1/2/3/4/5/6/7", api.ErrPath}, {"/g/x/3/4/5/6/7", api.ErrPath},
		{"/x", api.ErrNone}, {"/x/y", api.ErrNone}, {"/D", api.ErrNone}, {"/dd", api.ErrNone}, {"/d/x", api.ErrNone},
		{"/d/e/h/x", api.ErrNone}, {"/f", api.ErrNone}, {"/d/g", api.ErrNone}, {"/x/2/3/4/5/6", api.ErrNone},
		{"/g/x", api.ErrFile}, {"/g/x/y", api.ErrFile}, {"/d/f/x", api.ErrFile}, {"/d/f/g", api.ErrFile}, {"/g/2/3/4/5/6", api.ErrFile},
	}
}

func TestExamples(t *testing.T) {
	g := newGround(t, 100, 9)
	w := g.dir(empty(), "/d")
	x := g.file(w, "/d/f")
	g.lists(x, "/", "d")
	g.stats(x, "/d/f", false, 0)
	y := g.ok(g.f.Write(x, "/d/f", 3, []byte("ab")))
	g.reads(y, "/d/f", 0, 9, []byte{0, 0, 0, 'a', 'b'})
	g.reads(x, "/d/f", 0, 9, nil)
	g.refused(api.ErrLoop)(g.f.Rename(y, "/d", "/d/e"))
	z := g.ok(g.f.Rename(y, "/d/f", "/g"))
	g.ok(g.f.Unlink(z, "/d"))
	g.refused(api.ErrNotEmpty)(g.f.Unlink(y, "/d"))
	if data, e := g.f.Read(y, "/d", 0, 1); len(data) != 0 || e != api.ErrDir {
		t.Errorf("Read(/d) = %v, %v", data, e)
	}
	if l, e := g.f.List(y, "/d/f"); len(l) != 0 || e != api.ErrFile {
		t.Errorf("List(/d/f) = %v, %v", l, e)
	}
	g.isAmiss(y, "/d/f/g", api.ErrFile, api.ErrFile, api.ErrFile)
}

// P18.1
func TestNewIsRefusedWithoutTreeOrStore(t *testing.T) {
	g := newGround(t, 9, 9)
	for _, of := range []struct {
		x *tree.Tree
		s *chunks.Store
	}{{nil, nil}, {g.x, nil}, {nil, g.s}} {
		if f, e := files.New(of.x, of.s); f != nil || e != api.ErrArg {
			t.Errorf("New(%v, %v) = %v, %v", of.x, of.s, f, e)
		}
	}
}

// P18.1: in a version without anything there is / alone, and no block is asked for it.
func TestEmptyVersion(t *testing.T) {
	g := newGround(t, 9, 9)
	for _, v := range []api.Version{empty(), {}, {Next: math.MaxInt}, {ID: -1, Next: -1}} {
		g.stats(v, "/", true, 0)
		g.lists(v, "/")
		g.isAmiss(v, "/d", api.ErrNone, api.ErrNone, api.ErrNone)
		if l, e := g.f.Chunks(v); len(l) != 0 || e != api.OK {
			t.Errorf("Chunks() = %v, %v", l, e)
		}
	}
}

// P18.1
func TestStatAndList(t *testing.T) {
	g := newGround(t, 200, 9)
	v := g.some()
	for path, names := range map[string][]string{"/": {"d", "g"}, "/d": {"e", "f"}, "/d/e": {"h"}, "/d/e/h": nil} {
		g.stats(v, path, true, 0)
		g.lists(v, path, names...)
	}
	g.has(v, "/d/f", []byte("abc"))
	g.has(v, "/g", nil)
	for _, path := range []string{"/g", "/d/f"} {
		if l, e := g.f.List(v, path); len(l) != 0 || e != api.ErrFile {
			t.Errorf("List(%s) = %v, %v", path, l, e)
		}
	}
}

// P18.1: names rise by their bytes, whatever the order in which they came, and those of directories that have numbers beside each other are not mixed.
func TestListRises(t *testing.T) {
	g := newGround(t, 600, 9)
	v := g.dir(g.dir(empty(), "/1"), "/2")
	all := []string{"a", "b", "aa", "a~", "a!", "!", "~", "~~", "Z", "...", "..a", "1234567890123456", "~~~~~~~~~~~~~~~~", "}"}
	for i, name := range all {
		v = g.ok(g.f.Make(v, "/1/"+name, i%2 == 0))
		v = g.file(v, "/2/"+strings.Repeat(string(rune('a'+i)), 16))
	}
	slices.Sort(all)
	g.lists(v, "/1", all...)
	g.lists(v, "/", "1", "2")
	if l, e := g.f.List(v, "/2"); len(l) != len(all) || e != api.OK {
		t.Errorf("List(/2) = %q, %v", l, e)
	}
}

// P18.1 to P18.5
func TestPathsThatAreNotFound(t *testing.T) {
	g := newGround(t, 200, 9)
	v := g.file(g.some(), "/z")
	for _, p := range refusedPaths() {
		g.isAmiss(v, p.path, p.want, p.want, p.want)
		g.refused(p.want)(g.f.Write(v, p.path, 0, []byte("x")))
		g.refused(p.want)(g.f.Write(v, p.path, 0, nil))
		g.refused(p.want)(g.f.Truncate(v, p.path, 0))
		g.refused(p.want)(g.f.Unlink(v, p.path))
		g.refused(p.want)(g.f.Rename(v, p.path, "/new"))
		below := p.path
		if p.want != api.ErrPath {
			below += "/new"
		}
		if strings.Count(below, "/") > 6 {
			p.want = api.ErrPath
		}
		g.refused(p.want)(g.f.Make(v, below, false))
		g.refused(p.want)(g.f.Make(v, below, true))
		g.refused(p.want)(g.f.Rename(v, "/z", below))
	}
}

// P18.2
func TestRead(t *testing.T) {
	g := newGround(t, 300, 9)
	data := noise(3, 1500)
	v := g.filled(empty(), "/f", data)
	for _, off := range []int{0, 1, 63, 64, 511, 512, 513, 1000, 1499, 1500, 1501, 9000, math.MaxInt} {
		for _, n := range []int{0, 1, 2, 64, 511, 512, 513, 1499, 1500, 1501, math.MaxInt - 1, math.MaxInt} {
			first := min(off, len(data))
			g.reads(v, "/f", off, n, data[first:first+min(n, len(data)-first)])
		}
	}
}

// P18.2: a number that may not be is told ahead of the path, the path ahead of a directory.
func TestReadIsRefused(t *testing.T) {
	g := newGround(t, 200, 9)
	v := g.some()
	for _, l := range []struct {
		path   string
		off, n int
		want   api.Errno
	}{
		{"/d/f", -1, 1, api.ErrArg}, {"/d/f", 0, -1, api.ErrArg}, {"/d/f", math.MinInt, 1, api.ErrArg}, {"/d/f", 1, math.MinInt, api.ErrArg},
		{"x", -1, 1, api.ErrArg}, {"/x", 0, -1, api.ErrArg}, {"/", -1, -1, api.ErrArg},
		{"/", 0, 1, api.ErrDir}, {"/d", 0, 1, api.ErrDir}, {"/d/e/h", 0, 0, api.ErrDir},
	} {
		if data, e := g.f.Read(v, l.path, l.off, l.n); len(data) != 0 || e != l.want {
			t.Errorf("Read(%q, %d, %d) = %v, %v, want %v", l.path, l.off, l.n, data, e, l.want)
		}
	}
}

// P18.3
func TestMake(t *testing.T) {
	g := newGround(t, 300, 9)
	v := empty()
	for i, path := range []string{"/a", "/a/b", "/a/b/c", "/a/b/c/d", "/a/b/c/d/e", "/a/b/c/d/e/f", "/b", "/a/c"} {
		was := v
		v = g.dir(v, path)
		if v.Next != i+2 || v.Root == was.Root {
			t.Errorf("Make(%s) made %v out of %v", path, v, was)
		}
		g.stats(v, path, true, 0)
		g.lists(v, path)
		g.isAmiss(was, path, api.ErrNone, api.ErrNone, api.ErrNone)
	}
	g.lists(v, "/", "a", "b")
	g.lists(v, "/a", "b", "c")
	v = g.file(v, "/a/b/c/d/e/g")
	g.has(v, "/a/b/c/d/e/g", nil)
	g.lists(v, "/a/b/c/d/e", "f", "g")
}

// P18.3
func TestMakeIsRefused(t *testing.T) {
	g := newGround(t, 200, 9)
	v := g.some()
	full, low := v, v
	full.Next, low.Next = api.MaxInode+1, 0
	for _, dir := range []bool{false, true} {
		for _, w := range []api.Version{v, full, low} {
			g.refused(api.ErrExists)(g.f.Make(w, "/", dir))
			g.refused(api.ErrExists)(g.f.Make(w, "/d", dir))
			g.refused(api.ErrExists)(g.f.Make(w, "/d/f", dir))
			g.refused(api.ErrExists)(g.f.Make(w, "/d/e/h", dir))
			g.refused(api.ErrFile)(g.f.Make(w, "/g/x", dir))
			g.refused(api.ErrNone)(g.f.Make(w, "/x/y", dir))
			g.refused(api.ErrPath)(g.f.Make(w, "x", dir))
		}
		for _, next := range []int{api.MaxInode + 1, api.MaxInode + 2, math.MaxInt} {
			full.Next = next
			g.refused(api.ErrBig)(g.f.Make(full, "/d/new", dir))
		}
		for _, next := range []int{0, -1, math.MinInt} {
			low.Next = next
			g.refused(api.ErrArg)(g.f.Make(low, "/d/new", dir))
		}
	}
}

// P18.3: the last inodes that may be are like others.
func TestLastInodes(t *testing.T) {
	g := newGround(t, 300, 9)
	v := g.filled(empty(), "/f", []byte("f"))
	v.Next = api.MaxInode - 2
	v = g.filled(v, "/a", noise(1, 700))
	v = g.dir(v, "/d")
	v = g.filled(v, "/d/b", noise(2, 700))
	if v.Next != api.MaxInode+1 {
		t.Errorf("Next is %d", v.Next)
	}
	g.refused(api.ErrBig)(g.f.Make(v, "/d/new", false))
	g.has(v, "/a", noise(1, 700))
	g.has(v, "/d/b", noise(2, 700))
	g.lists(v, "/d", "b")
	if l, e := g.f.Chunks(v); len(l) < 5 || e != api.OK {
		t.Errorf("Chunks() = %v, %v", l, e)
	}
	v = g.ok(g.f.Rename(v, "/d", "/e"))
	v = g.ok(g.f.Truncate(v, "/e/b", 600))
	g.has(v, "/e/b", noise(2, 700)[:600])
	v = g.ok(g.f.Unlink(v, "/e/b"))
	v = g.ok(g.f.Unlink(v, "/e"))
	g.has(v, "/a", noise(1, 700))
	g.lists(v, "/", "a", "f")
	v.Next = 256 // an inode beside one whose number has other bytes
	v = g.filled(v, "/x", noise(3, 700))
	v.Next = 255
	v = g.filled(v, "/w", noise(4, 700))
	g.has(v, "/x", noise(3, 700))
	g.has(v, "/w", noise(4, 700))
}

// P18.5
func TestUnlink(t *testing.T) {
	g := newGround(t, 300, 9)
	v := g.filled(g.some(), "/d/e/big", noise(5, 3000))
	g.refused(api.ErrLoop)(g.f.Unlink(v, "/"))
	g.refused(api.ErrLoop)(g.f.Unlink(empty(), "/"))
	g.refused(api.ErrNotEmpty)(g.f.Unlink(v, "/d"))
	g.refused(api.ErrNotEmpty)(g.f.Unlink(v, "/d/e"))
	was := v
	for _, path := range []string{"/d/f", "/d/e/h", "/d/e/big", "/d/e", "/d", "/g"} {
		v = g.ok(g.f.Unlink(v, path))
		g.isAmiss(v, path, api.ErrNone, api.ErrNone, api.ErrNone)
		g.refused(api.ErrNone)(g.f.Unlink(v, path))
	}
	if v.Root != 0 || v.Next != was.Next {
		t.Errorf("without anything the version is %v", v)
	}
	g.lists(v, "/")
	g.has(was, "/d/e/big", noise(5, 3000))
	v = g.file(v, "/d")
	g.has(v, "/d", nil)
}

// P18.5
func TestRename(t *testing.T) {
	g := newGround(t, 300, 9)
	v := g.filled(g.some(), "/d/e/big", noise(5, 3000))
	was := v
	v = g.ok(g.f.Rename(v, "/d/e", "/m"))
	g.lists(v, "/", "d", "g", "m")
	g.lists(v, "/d", "f")
	g.lists(v, "/m", "big", "h")
	g.has(v, "/m/big", noise(5, 3000))
	g.isAmiss(v, "/d/e/big", api.ErrNone, api.ErrNone, api.ErrNone)
	v = g.ok(g.f.Rename(v, "/d", "/m/h/d"))
	g.has(v, "/m/h/d/f", []byte("abc"))
	v = g.ok(g.f.Rename(v, "/m/h/d/f", "/m/h/d/a"))
	g.lists(v, "/m/h/d", "a")
	g.lists(v, "/", "g", "m")
	v = g.ok(g.f.Rename(v, "/m", "/mm")) // the names begin alike: it is not into itself
	g.lists(v, "/", "g", "mm")
	g.has(v, "/mm/h/d/a", []byte("abc"))
	if v.Next != was.Next {
		t.Errorf("Next is %d, was %d", v.Next, was.Next)
	}
	g.lists(was, "/", "d", "g")
	g.has(was, "/d/e/big", noise(5, 3000))
}

// P18.5: in the order of the promise.
func TestRenameIsRefused(t *testing.T) {
	g := newGround(t, 300, 9)
	v := g.some()
	v = g.dir(v, "/1")
	v = g.dir(v, "/1/2")
	v = g.dir(v, "/1/2/3")
	v = g.file(v, "/1/2/3/4")
	for _, l := range []struct {
		path, to string
		want     api.Errno
	}{
		{"/x", "y", api.ErrPath}, {"x", "/y", api.ErrPath}, {"/", "/d/", api.ErrPath}, {"/d", "", api.ErrPath}, {"", "/", api.ErrPath},
		{"/d/f", "/1/2/3/4/5/6/7", api.ErrPath}, {"/x", "/", api.ErrNone}, {"/x", "/x", api.ErrNone}, {"/x", "/d", api.ErrNone},
		{"/g/x", "/g/x/y", api.ErrFile}, {"/g/x", "/", api.ErrFile},
		{"/", "/", api.ErrLoop}, {"/", "/d", api.ErrLoop}, {"/", "/x/y", api.ErrLoop}, {"/d", "/d", api.ErrLoop},
		{"/d", "/d/e", api.ErrLoop}, {"/d", "/d/x/y", api.ErrLoop}, {"/d", "/d/f/y", api.ErrLoop}, {"/g", "/g", api.ErrLoop}, {"/g", "/g/x", api.ErrLoop},
		{"/d", "/", api.ErrExists}, {"/g", "/", api.ErrExists}, {"/d/e", "/d", api.ErrExists}, {"/g", "/d", api.ErrExists},
		{"/d", "/g", api.ErrExists}, {"/d/f", "/g", api.ErrExists}, {"/1", "/d/e/h", api.ErrExists},
		{"/d", "/x/y", api.ErrNone}, {"/d", "/1/x/3/4/5/6", api.ErrNone},
		{"/d", "/g/x", api.ErrFile}, {"/d", "/g/x/y", api.ErrFile}, {"/d", "/1/2/3/4/5", api.ErrFile}, {"/1", "/d/f/3/4/5/6", api.ErrFile},
		{"/1", "/d/e/h/1", api.ErrBig}, {"/d", "/1/2/3/d/5", api.ErrNone}, {"/1/2", "/d/e/h/1", api.OK}, {"/1", "/d/e/1", api.OK},
	} {
		if l.want == api.OK {
			g.ok(g.f.Rename(v, l.path, l.to))
			continue
		}
		g.refused(l.want)(g.f.Rename(v, l.path, l.to))
	}
}

// P18.5: of each height and at each depth, be what is deepest a file or a directory, beside others that are not so deep.
func TestRenameStaysAtMostSixNamesDeep(t *testing.T) {
	g := newGround(t, 2000, 9)
	v := empty()
	for height := 1; height <= 5; height++ {
		for _, last := range []string{"file", "dir"} {
			path := fmt.Sprintf("/%s%d", last, height)
			v = g.dir(v, path)
			v = g.file(v, path+"/a")
			v = g.dir(v, path+"/z")
			for i := 2; i < height; i++ {
				path += "/m"
				v = g.dir(v, path)
				v = g.file(v, path+"/z")
			}
			if height > 1 {
				v = g.ok(g.f.Make(v, path+"/last", last == "dir"))
			}
		}
	}
	into := ""
	for depth := 1; depth <= 6; depth++ {
		for height := 1; height <= 5; height++ {
			for _, last := range []string{"file", "dir"} {
				from, to := fmt.Sprintf("/%s%d", last, height), into+"/new"
				// Ahead of the last one stand those that are made in each, one name below it.
				most := max(height, 2)
				if depth-1+most > 6 {
					g.refused(api.ErrBig)(g.f.Rename(v, from, to))
					continue
				}
				w := g.ok(g.f.Rename(v, from, to))
				g.lists(w, to, listed(g, v, from)...)
			}
		}
		g.stats(g.ok(g.f.Rename(g.file(v, "/one"), "/one", into+"/uno")), into+"/uno", false, 0)
		g.stats(g.ok(g.f.Rename(g.dir(v, "/one"), "/one", into+"/uno")), into+"/uno", true, 0)
		into += "/into"
		if depth < 6 {
			v = g.dir(v, into)
		}
	}
}

func listed(g *ground, v api.Version, path string) []string {
	g.t.Helper()
	l, e := g.f.List(v, path)
	if e != api.OK {
		g.t.Fatal(e)
	}
	return l
}

// P18.6: a version from ahead of a Begin stays, whatever is done to it.
func TestVersionsStay(t *testing.T) {
	g := newGround(t, 900, 9)
	v := g.filled(g.some(), "/d/e/big", noise(5, 3000))
	look := func() string {
		l, _ := g.f.Chunks(v)
		entries, _ := g.x.Scan(v.Root, "", "", math.MaxInt)
		return fmt.Sprint(l, entries)
	}
	was := look()
	for what, do := range map[string]func() (api.Version, api.Errno){
		"Make":      func() (api.Version, api.Errno) { return g.f.Make(v, "/new", true) },
		"Write":     func() (api.Version, api.Errno) { return g.f.Write(v, "/d/e/big", 700, noise(6, 1024)) },
		"Truncate":  func() (api.Version, api.Errno) { return g.f.Truncate(v, "/d/e/big", 100) },
		"Rename":    func() (api.Version, api.Errno) { return g.f.Rename(v, "/d/e", "/x") },
		"Unlink":    func() (api.Version, api.Errno) { return g.f.Unlink(v, "/d/e/big") },
		"lengthens": func() (api.Version, api.Errno) { return g.f.Truncate(v, "/d/f", 8192) },
	} {
		w := g.ok(do())
		if w.Root == v.Root {
			t.Errorf("%s: the Root stays", what)
		}
		if got := look(); got != was {
			t.Errorf("%s made %s out of %s", what, got, was)
		}
		g.has(v, "/d/e/big", noise(5, 3000))
	}
}

// P18.6: what was done without a Begin between is as if there had been one.
func TestWithoutBegin(t *testing.T) {
	g := newGround(t, 300, 9)
	v := empty()
	do := func(w api.Version, e api.Errno) {
		t.Helper()
		if e != api.OK {
			t.Fatal(e)
		}
		v = w
	}
	do(g.f.Make(v, "/d", true))
	do(g.f.Make(v, "/d/f", false))
	do(g.f.Write(v, "/d/f", 2000, noise(1, 1000)))
	do(g.f.Write(v, "/d/f", 0, noise(2, 1000)))
	do(g.f.Rename(v, "/d", "/e"))
	do(g.f.Make(v, "/g", false))
	do(g.f.Truncate(v, "/e/f", 2500))
	g.has(v, "/e/f", slices.Concat(noise(2, 1000), make([]byte, 1000), noise(1, 1000)[:500]))
	g.lists(v, "/", "e", "g")
	if got, e := g.x.Blocks(v.Root); e != api.OK || !slices.Equal(got, g.x.Fresh()) {
		t.Errorf("new are %v, the tree has %v, %v", g.x.Fresh(), got, e)
	}
}
