package tree_test

import (
	"bytes"
	"fmt"
	"math"
	"slices"
	"strings"
	"testing"

	"kist/alloc"
	"kist/api"
	"kist/cache"
	"kist/disk"
	"kist/node"
	"kist/tree"
)

// ground is a tree, with all that it stands on.
type ground struct {
	t *testing.T
	d *disk.Disk
	c *cache.Cache
	m *alloc.Map
	x *tree.Tree
}

func newGround(t *testing.T, blocks, room int) *ground {
	t.Helper()
	d, e := disk.New(50 + blocks)
	c, f := cache.New(d, room)
	m, h := alloc.New(50, 50+blocks)
	if e != api.OK || f != api.OK || h != api.OK {
		t.Fatal(e, f, h)
	}
	x, e := tree.New(c, m)
	if e != api.OK || x == nil {
		t.Fatalf("New() = %v, %v", x, e)
	}
	return &ground{t, d, c, m, x}
}

func (g *ground) put(root int, key, val string) int {
	g.t.Helper()
	other, e := g.x.Put(root, key, val)
	if e != api.OK || other == 0 {
		g.t.Fatalf("Put(%d, %q, %q) = %d, %v", root, key, val, other, e)
	}
	return other
}

func (g *ground) delete(root int, key string) int {
	g.t.Helper()
	other, found, e := g.x.Delete(root, key)
	if e != api.OK || !found {
		g.t.Fatalf("Delete(%d, %q) = %d, %v, %v", root, key, other, found, e)
	}
	return other
}

// hasNot wants a key to be missing, for Get and for Delete.
func (g *ground) hasNot(root int, keys ...string) {
	g.t.Helper()
	for _, key := range keys {
		if val, found, e := g.x.Get(root, key); val != "" || found || e != api.OK {
			g.t.Errorf("Get(%d, %q) = %q, %v, %v", root, key, val, found, e)
		}
		if other, found, e := g.x.Delete(root, key); other != root || found || e != api.OK {
			g.t.Errorf("Delete(%d, %q) = %d, %v, %v", root, key, other, found, e)
		}
	}
}

func (g *ground) has(root int, entries ...api.Entry) {
	g.t.Helper()
	if got, e := g.x.Scan(root, "", "", math.MaxInt); e != api.OK || !slices.Equal(got, entries) {
		g.t.Errorf("Scan(%d) = %v, %v, want %v", root, got, e, entries)
	}
	for _, entry := range entries {
		if val, found, e := g.x.Get(root, entry.Key); val != entry.Val || !found || e != api.OK {
			g.t.Errorf("Get(%d, %q) = %q, %v, %v, want %q", root, entry.Key, val, found, e, entry.Val)
		}
	}
}

func (g *ground) fresh(want ...int) {
	g.t.Helper()
	if got := g.x.Fresh(); !slices.Equal(got, want) {
		g.t.Errorf("Fresh() = %v, want %v", got, want)
	}
}

func (g *ground) levels(root int) int {
	g.t.Helper()
	levels, e := g.x.Levels(root)
	if e != api.OK {
		g.t.Fatalf("Levels(%d) = %d, %v", root, levels, e)
	}
	return levels
}

func (g *ground) blocks(root int) []int {
	g.t.Helper()
	numbers, e := g.x.Blocks(root)
	if e != api.OK {
		g.t.Fatalf("Blocks(%d) = %v, %v", root, numbers, e)
	}
	return numbers
}

// state is all that a refused call must leave as it is.
func (g *ground) state() string {
	return fmt.Sprint(g.x.Fresh(), g.m.Runs(), g.m.Free(), g.m.Dropped(), g.c.Dirty())
}

// refuses wants each call that reads a node to be refused with this error, and to change nothing.
func (g *ground) refuses(root int, want api.Errno) {
	g.t.Helper()
	was := g.state()
	if val, found, e := g.x.Get(root, "k"); val != "" || found || e != want {
		g.t.Errorf("Get(%d) = %q, %v, %v, want %v", root, val, found, e, want)
	}
	if other, e := g.x.Put(root, "k", "v"); other != 0 || e != want {
		g.t.Errorf("Put(%d) = %d, %v, want %v", root, other, e, want)
	}
	if other, found, e := g.x.Delete(root, "k"); other != 0 || found || e != want {
		g.t.Errorf("Delete(%d) = %d, %v, %v, want %v", root, other, found, e, want)
	}
	g.refusesAll(root, want)
	if levels, e := g.x.Levels(root); levels != 0 || e != want {
		g.t.Errorf("Levels(%d) = %d, %v, want %v", root, levels, e, want)
	}
	if got := g.state(); got != was {
		g.t.Errorf("refused calls made %s out of %s", got, was)
	}
}

// refusesAll wants the calls that read all nodes to be refused with this error.
func (g *ground) refusesAll(root int, want api.Errno) {
	g.t.Helper()
	if entries, e := g.x.Scan(root, "", "", math.MaxInt); len(entries) != 0 || e != want {
		g.t.Errorf("Scan(%d) = %v, %v, want %v", root, entries, e, want)
	}
	if numbers, e := g.x.Blocks(root); len(numbers) != 0 || e != want {
		g.t.Errorf("Blocks(%d) = %v, %v, want %v", root, numbers, e, want)
	}
}

func pair(key, val string) api.Entry { return api.Entry{Key: key, Val: val} }

// long is a key of 24 bytes, for a number of up to 4 digits.
func long(i int) string { return fmt.Sprintf("%04d%s", i, strings.Repeat("k", 20)) }

// grown is a tree of many long keys, by their numbers, and its entries.
func (g *ground) grown(many int) (int, []api.Entry) {
	g.t.Helper()
	root := 0
	var entries []api.Entry
	for i := range many {
		root = g.put(root, long(i), strings.Repeat("v", 24))
		entries = append(entries, pair(long(i), strings.Repeat("v", 24)))
	}
	return root, entries
}

func TestExamples(t *testing.T) {
	g := newGround(t, 30, 9)
	r := g.put(0, "a", "1")
	g.has(r, pair("a", "1"))
	g.hasNot(r, "b")
	g.hasNot(0, "a")
	s := g.put(r, "b", "2")
	g.has(s, pair("a", "1"), pair("b", "2"))
	g.x.Begin()
	u := g.delete(s, "a")
	g.has(u, pair("b", "2"))
	g.has(s, pair("a", "1"), pair("b", "2"))
	if root := g.delete(g.delete(s, "a"), "b"); root != 0 {
		t.Errorf("a tree without keys has the root %d", root)
	}
}

// P15.1
func TestNewIsRefusedWithoutCacheOrMap(t *testing.T) {
	g := newGround(t, 9, 9)
	for _, of := range []struct {
		c *cache.Cache
		m *alloc.Map
	}{{nil, nil}, {g.c, nil}, {nil, g.m}} {
		if x, e := tree.New(of.c, of.m); x != nil || e != api.ErrArg {
			t.Errorf("New(%v, %v) = %v, %v", of.c, of.m, x, e)
		}
	}
	g.fresh()
}

// P15.1
func TestCacheAndMapAreKept(t *testing.T) {
	g := newGround(t, 9, 9)
	g.m.Mark(50)
	g.m.Mark(52)
	if root := g.put(0, "a", "1"); root != 51 || !g.m.Taken(51) || g.m.Free() != 6 {
		t.Errorf("the root is %d; free are %v", root, g.m.Runs())
	}
	b, e := g.c.Get(51)
	if n, f := node.Get(b); e != api.OK || f != api.OK || !n.Leaf || !slices.Equal(n.Keys, []string{"a"}) || !slices.Equal(n.Vals, []string{"1"}) {
		t.Errorf("block 51 is %v, %v, %v", b, e, f)
	}
	if !slices.Equal(g.c.Dirty(), []int{51}) || len(g.d.Dirty()) != 0 {
		t.Errorf("dirty are %v in the cache, %v on the disk", g.c.Dirty(), g.d.Dirty())
	}
}

// P15.1
func TestBeginLetsNothingBeNew(t *testing.T) {
	g := newGround(t, 9, 9)
	r := g.put(0, "a", "1")
	g.fresh(r)
	g.x.Begin()
	g.fresh()
	g.has(r, pair("a", "1"))
	g.x.Undo()
	g.has(r, pair("a", "1"))
	if !g.m.Taken(r) || g.m.Free() != 8 {
		t.Errorf("free are %v", g.m.Runs())
	}
	s := g.put(r, "b", "2")
	g.fresh(s)
	g.has(r, pair("a", "1"))
}

// P15.1
func TestUndoLetsAllThatIsNewGo(t *testing.T) {
	g := newGround(t, 60, 9)
	r, entries := g.grown(40)
	g.x.Begin()
	was, dirty := g.m.Runs(), g.c.Dirty()
	s := r
	for i := range 20 {
		s = g.delete(g.put(s, long(100+i), "x"), long(i))
	}
	if len(g.x.Fresh()) < 5 {
		t.Errorf("only %v are new", g.x.Fresh())
	}
	news := g.x.Fresh()
	g.x.Undo()
	g.fresh()
	g.has(r, entries...)
	if !slices.Equal(g.m.Runs(), was) || !slices.Equal(g.c.Dirty(), dirty) {
		t.Errorf("free are %v, dirty %v; want %v, %v", g.m.Runs(), g.c.Dirty(), was, dirty)
	}
	for _, n := range news {
		if _, e := g.c.Get(n); e != api.ErrSum {
			t.Errorf("block %d is still in the cache: %v", n, e)
		}
	}
	g.x.Undo()
	g.has(r, entries...)
}

// P15.1
func TestFreshRises(t *testing.T) {
	g := newGround(t, 60, 9)
	root, _ := g.grown(60)
	if got := g.x.Fresh(); !slices.IsSorted(got) || !slices.Equal(got, g.blocks(root)) {
		t.Errorf("Fresh() = %v, the tree has %v", got, g.blocks(root))
	}
}

// P15.2
func TestScanTellsWhatLiesBetween(t *testing.T) {
	g := newGround(t, 60, 9)
	root := 0
	var all []api.Entry
	for i := range 90 {
		key := strings.Repeat(string(rune('a'+i/9)), 1+i%9)
		all = append(all, pair(key, fmt.Sprint(i)))
		root = g.put(root, key, fmt.Sprint(i))
	}
	edges := []string{"", "\x00", "a", "aa", "aab", "b", "c", "cccc", "ccccc", "d", "dz", "g", "jjjjjjjjj", "jjjjjjjjjj", "z", strings.Repeat("\xff", 30)}
	for _, from := range edges {
		for _, to := range edges {
			var want []api.Entry
			for _, entry := range all {
				if entry.Key >= from && (to == "" || entry.Key < to) {
					want = append(want, entry)
				}
			}
			for _, most := range []int{0, 1, 2, 7, 89, 90, 91, math.MaxInt} {
				got, e := g.x.Scan(root, from, to, most)
				if e != api.OK || !slices.Equal(got, want[:min(most, len(want))]) {
					t.Errorf("Scan(%q, %q, %d) = %v, %v, want the first of %v", from, to, most, got, e, want)
				}
			}
		}
	}
}

// P15.2
func TestScanOfFewerThanNone(t *testing.T) {
	g := newGround(t, 60, 9)
	root := g.put(0, "a", "1")
	for _, most := range []int{-1, -2, math.MinInt} {
		for _, of := range []int{0, root, 7, 59} {
			if got, e := g.x.Scan(of, "", "", most); len(got) != 0 || e != api.ErrArg {
				t.Errorf("Scan(%d, %d) = %v, %v", of, most, got, e)
			}
		}
	}
}

// P15.2, P15.5
func TestEmptyTree(t *testing.T) {
	g := newGround(t, 9, 9)
	g.has(0)
	g.hasNot(0, "", "a", strings.Repeat("k", 99))
	if g.levels(0) != 0 || len(g.blocks(0)) != 0 {
		t.Errorf("an empty tree has %d levels, %v", g.levels(0), g.blocks(0))
	}
	if got, e := g.x.Scan(0, "a", "b", 0); len(got) != 0 || e != api.OK {
		t.Errorf("Scan(0) = %v, %v", got, e)
	}
	g.fresh()
}

// P15.2, P15.3
func TestKeysThatCanNotBeThere(t *testing.T) {
	g := newGround(t, 60, 9)
	root, entries := g.grown(50)
	g.hasNot(root, "", "\x00", long(51), long(7)[:23], long(7)+"k", strings.Repeat("9", 1000), "\xff")
	g.has(root, entries...)
}

// P15.3
func TestPutOfWhatMayNotBe(t *testing.T) {
	g := newGround(t, 60, 9)
	root := g.put(0, "a", "1")
	was := g.state()
	k24, k25 := strings.Repeat("k", 24), strings.Repeat("k", 25)
	for _, of := range []int{0, root, 7, -1, 55} {
		for _, bad := range []api.Entry{pair("", ""), pair("", "v"), pair(k25, ""), pair("a", k25), pair(k25, k25), pair(k24, k25), pair("a", strings.Repeat("v", 1000)), pair(strings.Repeat("k", 1000), "v")} {
			if other, e := g.x.Put(of, bad.Key, bad.Val); other != 0 || e != api.ErrArg {
				t.Errorf("Put(%d, %q, %q) = %d, %v", of, bad.Key, bad.Val, other, e)
			}
		}
	}
	if got := g.state(); got != was {
		t.Errorf("refused calls made %s out of %s", got, was)
	}
	root = g.put(root, k24, k24)
	root = g.put(root, "\x00", "")
	g.has(root, pair("\x00", ""), pair("a", "1"), pair(k24, k24))
}

// P15.3
func TestPutInPlaceOfWhatStoodThere(t *testing.T) {
	g := newGround(t, 60, 9)
	root, entries := g.grown(30)
	for i := range entries {
		for _, val := range []string{"", "x", "\x00\xff", strings.Repeat("w", 24)} {
			entries[i].Val = val
			root = g.put(root, entries[i].Key, val)
			g.has(root, entries...)
		}
	}
}

// P15.3: a value that grows where a leaf is full.
func TestValuesThatGrow(t *testing.T) {
	g := newGround(t, 60, 9)
	root := 0
	var entries []api.Entry
	for i := range 30 {
		root = g.put(root, long(i), "")
		entries = append(entries, pair(long(i), ""))
	}
	for i := range entries {
		entries[i].Val = strings.Repeat("w", 24)
		root = g.put(root, entries[i].Key, entries[i].Val)
		g.has(root, entries...)
		g.sound(root)
	}
}

// P15.3
func TestDeleteAll(t *testing.T) {
	for name, order := range map[string]func(i, many int) int{
		"rising":       func(i, many int) int { return i },
		"falling":      func(i, many int) int { return many - 1 - i },
		"to the fro":   func(i, many int) int { return i * 37 % many },
		"from the mid": func(i, many int) int { return (i + many/2) % many },
	} {
		g := newGround(t, 120, 9)
		root, entries := g.grown(150)
		for i := range 150 {
			key := long(order(i, 150))
			root = g.delete(root, key)
			entries = slices.DeleteFunc(entries, func(e api.Entry) bool { return e.Key == key })
			g.has(root, entries...)
			g.sound(root)
			if t.Failed() {
				t.Fatalf("%s, behind %d", name, i)
			}
		}
		if root != 0 || g.m.Free() != 120 || len(g.c.Dirty()) != 0 {
			t.Errorf("%s: the root is %d, free are %v, dirty %v", name, root, g.m.Runs(), g.c.Dirty())
		}
		g.fresh()
	}
}

// A tree out of which nearly all was taken is not much greater than one into which it was never put.
func TestDeleteJoins(t *testing.T) {
	g := newGround(t, 200, 9)
	root, _ := g.grown(300)
	for i := range 300 {
		if i%100 != 50 {
			root = g.delete(root, long(i))
		}
	}
	if got := g.blocks(root); len(got) != 1 || g.levels(root) != 1 {
		t.Errorf("three keys stand in %v, on %d levels", got, g.levels(root))
	}
	g.sound(root)
}

// P15.4
func TestNewNodesThatAreLeftAreLetGo(t *testing.T) {
	g := newGround(t, 60, 9)
	root := 0
	for i := range 60 {
		root = g.put(root, long(i*7%60), "v")
		g.fresh(g.blocks(root)...)
		if g.m.Free() != 60-len(g.blocks(root)) || !slices.Equal(g.c.Dirty(), g.blocks(root)) {
			t.Fatalf("%d are free, dirty are %v, and the tree has %v", g.m.Free(), g.c.Dirty(), g.blocks(root))
		}
	}
}

// blocksNow is all blocks that there are.
func (g *ground) blocksNow() map[int]api.Block {
	all := map[int]api.Block{}
	for n := range g.d.Size() {
		if b, e := g.c.Get(n); e == api.OK {
			all[n] = b
		}
	}
	return all
}

// stay wants blocks to be as they were.
func (g *ground) stay(were map[int]api.Block) {
	g.t.Helper()
	for n, was := range were {
		b, e := g.c.Get(n)
		if e != api.OK || b.Kind != was.Kind || !bytes.Equal(b.Body, was.Body) || !g.m.Taken(n) {
			g.t.Errorf("block %d is %v, %v, taken %v; it was %v", n, b, e, g.m.Taken(n), was)
		}
	}
}

// P15.4, P15.8
func TestNoOldBlockIsChanged(t *testing.T) {
	g := newGround(t, 200, 9)
	root, entries := g.grown(60)
	g.x.Begin()
	were := g.blocksNow()
	s := root
	for i := range 60 {
		s = g.put(s, long(100+i), "x")
		s = g.put(s, long(i), "y")
		g.stay(were)
	}
	for i := range 60 {
		s = g.delete(s, long(100+i))
		s = g.delete(s, long(i))
		g.stay(were)
	}
	g.fresh()
	g.has(root, entries...)
}

// leave takes blocks till so many are free; what it answers gives them back.
func (g *ground) leave(free int) func() {
	g.t.Helper()
	var taken []int
	for g.m.Free() > free {
		n, _ := g.m.Take()
		taken = append(taken, n)
	}
	if g.m.Free() != free {
		g.t.Fatalf("only %d are free", g.m.Free())
	}
	return func() {
		for _, n := range taken {
			g.m.Back(n)
		}
	}
}

// collect lets all blocks go that a tree has not.
func (g *ground) collect(root int) {
	keep := g.blocks(root)
	for n := range g.d.Size() {
		if !slices.Contains(keep, n) {
			g.m.Back(n)
			g.c.Forget(n)
		}
	}
}

// P15.4
func TestNoErrSpaceWhileEnoughAreFree(t *testing.T) {
	for name, order := range map[string]func(i int) int{
		"rising":     func(i int) int { return i },
		"falling":    func(i int) int { return 699 - i },
		"to the fro": func(i int) int { return i * 79 % 700 },
	} {
		g := newGround(t, 800, 9)
		root, raised := 0, 0
		for i := range 700 {
			g.x.Begin()
			levels := g.levels(root)
			back := g.leave(2*levels + 1)
			root = g.put(root, long(order(i)), strings.Repeat("v", 24))
			if g.levels(root) > levels {
				raised++
			}
			back()
			g.collect(root)
		}
		if raised < 4 {
			t.Errorf("%s: the tree was raised only %d times", name, raised)
		}
		for i := range 700 {
			g.x.Begin()
			back := g.leave(2*g.levels(root) + 1)
			root = g.delete(root, long(order(i*9%700)))
			back()
			g.collect(root)
		}
		if root != 0 {
			t.Errorf("%s: the root is %d", name, root)
		}
	}
}

// P15.4: of any number of free blocks that is too few, nothing has changed.
func TestErrSpaceChangesNothing(t *testing.T) {
	for _, begin := range []bool{true, false} {
		g := newGround(t, 300, 9)
		root, refused := 0, 0
		for i := range 200 {
			if begin {
				g.x.Begin()
			}
			key := long(i * 77 % 200)
			entries, _ := g.x.Scan(root, "", "", 999)
			for free := 0; ; free++ {
				back := g.leave(free)
				was := g.state()
				other, e := g.x.Put(root, key, strings.Repeat("v", 24))
				if e == api.OK {
					root = other
					back()
					break
				}
				refused++
				if got := g.state(); e != api.ErrSpace || other != 0 || got != was {
					t.Fatalf("with %d free Put is %d, %v, and made %s out of %s", free, other, e, got, was)
				}
				back()
				g.has(root, entries...)
			}
			g.sound(root)
			g.collect(root)
		}
		if refused < 300 {
			t.Errorf("only %d were refused", refused)
		}
	}
}

// P15.4
func TestDeleteWithoutRoom(t *testing.T) {
	g := newGround(t, 1, 9)
	root := g.put(0, "a", "1")
	g.x.Begin()
	if other, e := g.x.Put(root, "b", "2"); other != 0 || e != api.ErrSpace {
		t.Errorf("Put() = %d, %v", other, e)
	}
	g.hasNot(root, "b")
	if root := g.delete(root, "a"); root != 0 {
		t.Errorf("the root is %d", root)
	}
	g.has(root, pair("a", "1"))

	g = newGround(t, 9, 9)
	root, entries := g.grown(5)
	g.x.Begin()
	g.leave(0)
	was := g.state()
	if other, found, e := g.x.Delete(root, long(2)); other != 0 || found || e != api.ErrSpace {
		t.Errorf("Delete() = %d, %v, %v", other, found, e)
	}
	if got := g.state(); got != was {
		t.Errorf("refused calls made %s out of %s", got, was)
	}
	g.has(root, entries...)
}

// P15.4: what is set aside in the map is taken, too.
func TestBlocksThatAreSetAside(t *testing.T) {
	g := newGround(t, 2, 9)
	if !g.m.Reserve(2) || g.m.Free() != 0 {
		t.Fatal(g.m.Free())
	}
	root := g.put(0, "a", "1")
	g.has(root, pair("a", "1"))
}

// P15.5
func TestLevelsAndBlocks(t *testing.T) {
	g := newGround(t, 400, 9)
	root := 0
	for i := range 600 {
		root = g.put(root, long(i*77%600), strings.Repeat("v", 24))
		levels, numbers, _ := g.sound(root)
		if got := g.levels(root); got != levels {
			t.Fatalf("Levels() = %d, want %d", got, levels)
		}
		if got := g.blocks(root); !slices.Equal(got, numbers) {
			t.Fatalf("Blocks() = %v, want %v", got, numbers)
		}
	}
	if g.levels(root) < 4 {
		t.Errorf("the tree has only %d levels", g.levels(root))
	}
}

// R4
func TestAnswersAreNewMemory(t *testing.T) {
	g := newGround(t, 60, 9)
	root, entries := g.grown(30)
	for range 2 {
		scanned, _ := g.x.Scan(root, "", "", 99)
		numbers := g.blocks(root)
		fresh := g.x.Fresh()
		g.fresh(numbers...)
		clear(scanned)
		clear(numbers)
		clear(fresh)
		g.has(root, entries...)
	}
}
