package engine_test

import (
	"math"
	"slices"
	"testing"

	"kist/api"
	"kist/cut"
	"kist/engine"
)

// taken is the blocks that are taken, by what Let says of each: of a twin, that is not needed any more.
func (g *ground) taken() []int {
	g.t.Helper()
	twin := &ground{t: g.t, d: g.d.Copy()}
	twin.mount()
	var all []int
	for n := range g.d.Size() {
		if twin.g.Let(n) {
			all = append(all, n)
		}
	}
	return all
}

func (g *ground) spared() []int {
	var all []int
	for n := -3; n < g.d.Size()+3; n++ {
		if g.g.Spared(n) {
			all = append(all, n)
		}
	}
	return all
}

// P19.6: Load
func TestLoad(t *testing.T) {
	g := newGround(t, 128)
	for _, n := range []int{math.MinInt, -1, 0, 49, 128, math.MaxInt} {
		if b, e := g.g.Load(n); e != api.ErrRange || b.Kind != 0 || len(b.Body) > 0 {
			t.Errorf("Load(%d) = %v, %v", n, b, e)
		}
	}
	if _, e := g.g.Load(50); e != api.ErrSum {
		t.Error(e)
	}
	g.do(create(1, "/f"))
	root := g.g.Versions()[0].Root
	for range 2 {
		if b, e := g.g.Load(root); e != api.OK || b.Kind != api.KindLeaf {
			t.Errorf("Load(%d) = %v, %v", root, b, e)
		}
		g.checkpoint()
	}
	g.do(write(1, "/f", 0, noise(1, 500)))
	kinds := map[int]int{}
	for _, n := range g.used() {
		b, e := g.g.Load(n)
		if e != api.OK {
			t.Fatal(e)
		}
		kinds[b.Kind]++
	}
	if kinds[api.KindChunk] == 0 || kinds[api.KindMore] == 0 || kinds[api.KindLeaf] == 0 {
		t.Errorf("the kinds are %v", kinds)
	}
}

// P19.6: Let
func TestLet(t *testing.T) {
	g := newGround(t, 128)
	for n := -3; n < 140; n++ {
		if g.g.Let(n) {
			t.Errorf("%d was let go", n)
		}
	}
	for _, n := range []int{math.MinInt, math.MaxInt} {
		if g.g.Let(n) {
			t.Errorf("%d was let go", n)
		}
	}
	g.do(create(1, "/f"))
	g.do(write(1, "/f", 0, noise(1, 500)))
	g.checkpoint()
	was := g.used()
	g.do(write(1, "/f", 0, noise(2, 500)))
	g.do(unlink(1, "/f"))
	free := g.g.Free()
	many := 0
	for n := range 128 {
		if g.g.Let(n) {
			many++
		}
		if g.g.Let(n) {
			t.Errorf("%d was let go twice", n)
		}
	}
	if g.g.Free() != free || many != 78-free || many <= len(was) {
		t.Errorf("%d blocks are free, were %d; %d were let go", g.g.Free(), free, many)
	}
	// They are not taken ahead of the checkpoint, and what they had is not written.
	g.do(create(1, "/g"))
	for _, n := range g.used() {
		if slices.Contains(was, n) {
			t.Errorf("%d was taken again", n)
		}
	}
	g.checkpoint()
	if left := 78 - g.g.Free(); left >= many || left < len(g.used()) {
		t.Errorf("%d blocks are taken", left)
	}
	g.collect()
	g.checkpoint()
	if g.g.Free() != 78-len(g.used()) {
		t.Errorf("%d blocks are free, %d in use", g.g.Free(), len(g.used()))
	}
	g.lists(1, "/", "g")
}

// P19.6: the cache forgets what is let go, written or not.
func TestLetIsForgotten(t *testing.T) {
	g := newGround(t, 128)
	g.do(create(1, "/f"))
	root := g.g.Versions()[0].Root
	g.do(create(1, "/g"))
	if _, e := g.g.Load(root); e != api.OK || !g.g.Let(root) {
		t.Error(e)
	}
	if _, e := g.g.Load(root); e != api.ErrSum { // it was never written
		t.Error(e)
	}
	g.checkpoint()
	if _, e := g.g.Load(root); e != api.ErrSum {
		t.Error(e)
	}
	other := g.g.Versions()[0].Root
	g.do(drop(1))
	if _, e := g.g.Load(other); e != api.OK || !g.g.Let(other) {
		t.Error(e)
	}
	if _, e := g.g.Load(other); e != api.OK { // it lies there
		t.Error(e)
	}
	if e := g.d.Rot(2048 * other); e != api.OK {
		t.Fatal(e)
	}
	g.g.Let(other)
	if _, e := g.g.Load(other); e != api.OK { // it is clean again, till the next one that was let go
		t.Error(e)
	}
}

// uncut is bytes that are one chunk, of three blocks.
func uncut(t *testing.T) string {
	t.Helper()
	for seed := range int64(100) {
		if data := noise(seed, 500); len(cut.Cut([]byte(data))) == 1 {
			return data
		}
	}
	t.Fatal("all bytes are cut")
	return ""
}

// P19.6: a chunk that begins in a block that is let go is known no more; one that only goes on there is.
func TestLetIsNotKnown(t *testing.T) {
	for place := range 3 {
		g := newGround(t, 200)
		g.do(create(1, "/f"))
		g.do(write(1, "/f", 0, uncut(t)))
		var chunk []int
		for _, n := range g.used() {
			if b, e := g.g.Load(n); e == api.OK && b.Kind >= api.KindChunk {
				chunk = append(chunk, n)
			}
		}
		if len(chunk) != 3 {
			t.Fatalf("the chunk has the blocks %v", chunk)
		}
		g.do(clone(1))
		g.do(unlink(2, "/f"))
		g.do(create(2, "/h"))
		if !g.g.Let(chunk[place]) {
			t.Fatal(place)
		}
		g.do(write(2, "/h", 0, uncut(t)))
		g.do(drop(1))
		again := 0
		for _, n := range g.used() {
			if b, e := g.g.Load(n); e == api.OK && b.Kind >= api.KindChunk && !slices.Contains(chunk, n) {
				again++
			}
		}
		// A chunk with a block that can't be read has no bytes that others could be held against.
		if again != 3 {
			t.Errorf("place %d: %d blocks were taken for the chunk", place, again)
		}
	}
}

// P19.6: Watch and Spared
func TestSpared(t *testing.T) {
	g := newGround(t, 300)
	g.do(create(1, "/f"))
	g.do(write(1, "/f", 0, noise(1, 480)))
	g.do(create(1, "/g"))
	if all := g.spared(); len(all) > 0 {
		t.Errorf("ahead of Watch %v are spared", all)
	}
	g.g.Watch()
	if all := g.spared(); len(all) > 0 {
		t.Errorf("behind Watch %v are spared", all)
	}
	was := g.used()
	// What is told, and versions, spare nothing.
	g.do(read(1, "/f", 0, 999))
	g.do(list(1, "/"))
	g.do(snapshot(1))
	g.do(clone(2))
	g.do(drop(2))
	g.do(sync())
	g.checkpoint()
	if all := g.spared(); len(all) > 0 {
		t.Errorf("%v are spared", all)
	}
	g.do(write(3, "/g", 0, noise(2, 480)))
	var taken []int
	for _, n := range g.used() {
		if !slices.Contains(was, n) {
			taken = append(taken, n)
		}
	}
	if !slices.Equal(g.spared(), taken) || len(taken) < 4 {
		t.Errorf("%v are spared, want %v", g.spared(), taken)
	}
	for range 2 {
		g.g.Let(taken[0]) // what is let go was taken nonetheless
		g.checkpoint()
		if !slices.Equal(g.spared(), taken) {
			t.Errorf("%v are spared, want %v", g.spared(), taken)
		}
	}
	g.g.Watch()
	if all := g.spared(); len(all) > 0 {
		t.Errorf("behind Watch %v are spared", all)
	}
}

// P19.6: all blocks of a chunk that was found are spared, in use or not.
func TestFoundIsSpared(t *testing.T) {
	g := newGround(t, 300)
	g.do(create(1, "/f"))
	g.do(write(1, "/f", 0, noise(1, 480)))
	var chunk []int
	for _, n := range g.used() {
		if b, e := g.g.Load(n); e == api.OK && b.Kind >= api.KindChunk {
			chunk = append(chunk, n)
		}
	}
	g.do(truncate(1, "/f", 0))
	g.checkpoint()
	g.g.Watch()
	g.do(write(1, "/f", 0, noise(1, 480)))
	root := g.g.Versions()[0].Root
	want := append([]int{root}, chunk...)
	slices.Sort(want)
	if all := g.spared(); !slices.Equal(all, want) {
		t.Errorf("%v are spared, want %v", all, want)
	}
	g.g.Watch()
	g.do(write(1, "/f", 0, noise(1, 480)))
	if all := g.spared(); !slices.Equal(all, chunk) {
		t.Errorf("%v are spared, want %v", all, chunk)
	}
}

// P19.4, P19.6: what was refused has taken nothing.
func TestRefusedIsNotSpared(t *testing.T) {
	g := newGround(t, 128)
	g.do(create(1, "/f"))
	for i := 0; g.g.Free() > 5; i++ {
		g.do(write(1, "/f", 0, string(rune('a'+i%26))))
		g.do(truncate(1, "/f", 0))
	}
	g.g.Watch()
	g.refuses(api.ErrSpace, write(1, "/f", 0, noise(1, 1024)))
	if all := g.spared(); len(all) > 0 {
		t.Errorf("%v are spared", all)
	}
}

// Mount spares nothing, whatever it does again.
func TestMountSparesNothing(t *testing.T) {
	g := newGround(t, 128)
	g.do(create(1, "/f"))
	g.do(write(1, "/f", 0, "abc"))
	g.mount()
	if all := g.spared(); len(all) > 0 {
		t.Errorf("%v are spared", all)
	}
	if all := g.taken(); !slices.Equal(all, g.used()) {
		t.Errorf("taken are %v, in use %v", all, g.used())
	}
}

// A collector as of chapter 20, all of it at once, takes nothing that is told.
func TestCollected(t *testing.T) {
	g := newGround(t, 128)
	g.do(create(1, "/f"))
	for i := range 200 {
		g.do(write(1, "/f", i*7%900, noise(int64(i%9), 40+i%300)))
		if i%40 == 0 {
			g.do(snapshot(1))
		}
		if i%40 == 39 {
			g.do(drop(g.g.Versions()[len(g.g.Versions())-1].ID))
		}
		if g.g.Free() < 30 {
			was := g.told()
			g.collect()
			g.checkpoint()
			if g.told() != was || g.g.Free() != 78-len(g.used()) {
				t.Fatalf("told are %s, were %s", g.told(), was)
			}
		}
	}
	if _, e := engine.Mount(g.d); e != api.OK {
		t.Error(e)
	}
}
