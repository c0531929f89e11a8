package engine_test

import (
	"math/rand"
	"slices"
	"strings"
	"testing"

	"kist/alloc"
	"kist/api"
	"kist/block"
	"kist/cache"
	"kist/disk"
	"kist/engine"
	"kist/node"
	"kist/super"
	"kist/tree"
)

// under is a copy of a ground's disk, that is not mounted, with another tree for its first version: as of the one that was, with these entries besides.
func (g *ground) under(entries ...api.Entry) *ground {
	g.t.Helper()
	g.checkpoint()
	d := g.d.Copy()
	s, e := super.Load(d)
	if e != api.OK {
		g.t.Fatal(e)
	}
	m, _ := alloc.New(api.FirstBlock, d.Size())
	for _, n := range g.taken() {
		m.Mark(n)
	}
	c, _ := cache.New(d, 99)
	x, _ := tree.New(c, m)
	for _, entry := range entries {
		s.Versions[0].Root, e = x.Put(s.Versions[0].Root, entry.Key, entry.Val)
		if e != api.OK {
			g.t.Fatalf("Put(%q) = %v", entry.Key, e)
		}
	}
	c.Flush()
	d.Flush()
	s.Gen++
	if e := super.Save(d, s); e != api.OK {
		g.t.Fatal(e)
	}
	return &ground{t: g.t, d: d}
}

// isRefused wants a disk not to be mounted, and not to be written.
func (g *ground) isRefused(want api.Errno, about any) {
	g.t.Helper()
	was := sectors(g.d)
	if x, e := engine.Mount(g.d); x != nil || e != want {
		g.t.Errorf("%#v: Mount() = %v, %v, want %v", about, x, e, want)
	}
	if sectors(g.d) != was || len(g.d.Dirty()) > 0 {
		g.t.Errorf("%#v: something was written", about)
	}
}

// filled is a ground with a file of some chunks, of which each has more than one block, and two versions of it.
func filled(t *testing.T) *ground {
	t.Helper()
	g := newGround(t, 300)
	g.do(create(1, "/f"))
	g.do(write(1, "/f", 0, noise(1, 1000)))
	g.do(snapshot(1))
	g.do(write(1, "/f", 900, noise(2, 1000)))
	g.checkpoint()
	return g
}

// P19.2: a key of no kind is ErrImage, wherever it stands among the others.
func TestKeysOfNoKind(t *testing.T) {
	g := filled(t)
	long := strings.Repeat("n", 17)
	for _, key := range []string{
		"a", "z", "z\x00\x00\x01", "c\x00\x00\x01f", "e\x00\x00\x00f", "h\x00\x00\x01", "j\x00\x00\x01", "w\x00\x00\x01\x00\x00", "y\x00\x00\x01\x00\x00", "\x00", "\xff", "I\x00\x00\x09", "D\x00\x00\x00f", "X\x00\x00\x01\x00\x09",
		"d", "d\x00\x00", "d\x00\x00\x00", "d\x00\x00\x00\x00", "d\x00\x00\x00.", "d\x00\x00\x00..", "d\x00\x00\x00a/b", "d\x00\x00\x00a b", "d\x00\x00\x00/", "d\x00\x00\x00\x7f", "d\x00\x00\x00\xff", "d\x00\x00\x00é", "d\x00\x00\x00" + long,
		"i", "i\x00\x00", "i\x00\x00\x00", "i\x00\x00\x02\x00", "i\x00\x00\x02f",
		"x", "x\x00\x00\x01", "x\x00\x00\x01\x00", "x\x00\x00\x01\x00\x09\x00", "x\x00\x00",
	} {
		g.under(api.Entry{Key: key, Val: "\x00\x00\x00"}).isRefused(api.ErrImage, key)
	}
}

// P19.2: keys that are of a kind are, whatever stands there; what that is, operations tell.
func TestKeysOfAKind(t *testing.T) {
	g := filled(t)
	for _, key := range []string{"d\x00\x00\x00a", "d\xff\xff\xff" + strings.Repeat("n", 16), "d\x00\x00\x09~!", "i\x00\x00\x02", "i\xff\xff\xff", "i\x00\x01\x00", "i\x01\x00\x00"} {
		for _, val := range []string{"", "\x01\x00\x00", "\xff\xff\xff\xff"} {
			x := g.under(api.Entry{Key: key, Val: val})
			x.mount()
			x.reads(1, "/f", noise(1, 900)+noise(2, 1000))
		}
	}
}

// P19.2: what stands at a key with x is to be a chunk, which is to be one.
func TestChunksThatAreNone(t *testing.T) {
	g := filled(t)
	root := g.g.Versions()[0].Root
	var chunk, more int
	for _, n := range g.used() {
		switch b, _ := g.g.Load(n); b.Kind {
		case api.KindChunk:
			chunk = n
		case api.KindMore:
			more = n
		}
	}
	b, _ := g.g.Load(chunk)
	size := int(b.Body[0]) | int(b.Body[1])<<8
	val := func(number, many int) string {
		return string([]byte{byte(number >> 8), byte(number), byte(many >> 8), byte(many)})
	}
	for _, key := range []string{"x\x00\x00\x01\x00\x77", "x\x00\x00\x00\x00\x00", "x\xff\xff\xff\xff\xff"} {
		good := g.under(api.Entry{Key: key, Val: val(chunk, size)})
		good.mount()
		for bad, want := range map[string]api.Errno{
			"":                        api.ErrImage,
			val(chunk, size)[:3]:      api.ErrImage,
			val(chunk, size) + "\x00": api.ErrImage,
			val(chunk, size-1):        api.ErrImage,
			val(chunk, size+1):        api.ErrImage,
			val(chunk, 0):             api.ErrImage,
			val(chunk, 513):           api.ErrImage,
			val(chunk, 0xffff):        api.ErrImage,
			val(more, size):           api.ErrImage,
			val(root, size):           api.ErrImage,
			val(299, size):            api.ErrSum, // nothing was written there
			val(0, size):              api.ErrRange,
			val(49, size):             api.ErrRange,
			val(300, size):            api.ErrRange,
			val(0xffff, size):         api.ErrRange,
		} {
			g.under(api.Entry{Key: key, Val: bad}).isRefused(want, key+bad)
		}
	}
}

// P19.2: the error of what can't be read goes up, wherever a bit has turned; what is not kept may rot.
func TestRot(t *testing.T) {
	g := filled(t)
	g.do(write(1, "/f", 400, noise(3, 600)))
	g.checkpoint()
	used := g.used()
	if free := g.g.Free(); 250-free <= len(used) {
		t.Errorf("%d blocks are free, %d in use", free, len(used))
	}
	for n := api.FirstBlock; n < 300; n++ {
		for _, bit := range []int{0, 77, 2047} {
			x := &ground{t: t, d: g.d.Copy()}
			if e := x.d.Rot(2048*n + bit); e != api.OK {
				t.Fatal(e)
			}
			is := false
			for _, other := range used {
				is = is || other == n
			}
			if is {
				x.isRefused(api.ErrSum, n)
				continue
			}
			x.mount()
			x.reads(2, "/f", noise(1, 1000))
		}
	}
}

// P19.2: blocks that are whole, and none of a tree's.
func TestNodesThatAreNone(t *testing.T) {
	g := filled(t)
	s, _ := super.Load(g.d)
	// rooted is a disk whose second version has this block as its root.
	rooted := func(b api.Block) *ground {
		t.Helper()
		sector, e := block.Put(299, b)
		if e != api.OK {
			t.Fatal(e)
		}
		x := g.with(func(other *api.Super) { other.Versions[1].Root = 299 })
		x.d.Write(299, sector)
		x.d.Flush()
		return x
	}
	leaf, e := node.Put(node.Node{Leaf: true, Keys: []string{"i\x00\x00\x01"}, Vals: []string{"\x01\x00\x00"}})
	if e != api.OK {
		t.Fatal(e)
	}
	rooted(leaf).mount()
	for kind := api.KindLeaf; kind <= api.KindMore; kind++ {
		for _, body := range [][]byte{nil, {0}, {1}, {255, 255}, make([]byte, 240)} {
			x := rooted(api.Block{Kind: kind, Body: body})
			if y, e := engine.Mount(x.d); e == api.OK {
				// A leaf of no entries may be one.
				y.Do(list(1, "/"))
			} else if y != nil || e != api.ErrImage {
				t.Errorf("kind %d, %x: Mount() = %v, %v", kind, body, y, e)
			}
		}
	}
	// Inner nodes whose kids are none, are above them, or come twice.
	kept := s.Versions[0].Root
	for kid, want := range map[int]api.Errno{0: api.ErrRange, 49: api.ErrRange, 298: api.ErrSum, 299: api.ErrImage, 300: api.ErrRange, kept: api.ErrImage} {
		inner, e := node.Put(node.Node{Keys: []string{"", "zz"}, Kids: []int{kept, kid}})
		if e != api.OK {
			t.Fatal(e)
		}
		rooted(inner).isRefused(want, kid)
	}
}

// Whatever stands on a disk, Mount answers, and what it has mounted answers.
func TestImagesByChance(t *testing.T) {
	chance := rand.New(rand.NewSource(1))
	many := map[api.Errno]int{}
	for range 400 {
		g := filled(t)
		d := g.d
		used := g.used()
		spoil(t, d, used[chance.Intn(len(used))], chance)
		d.Flush()
		x, e := engine.Mount(d)
		many[e]++
		if e != api.OK {
			if x != nil {
				t.Fatal(x)
			}
			continue
		}
		for i, op := range []api.Op{
			list(1, "/"), stat(1, "/f"), read(1, "/f", 0, 9999), write(1, "/f", 300, noise(1, 1000)), truncate(2, "/f", 9),
			rename(1, "/f", "/g"), truncate(1, "/g", 500), mkdir(1, "/h"), unlink(1, "/g"), snapshot(1), drop(2), sync(),
		} {
			if r := x.Do(op); r.Code != api.OK && (r.Value != 0 || len(r.Data)+len(r.Names) > 0) {
				t.Fatalf("the operation %d is answered %v", i, r)
			}
		}
	}
	if many[api.OK] < 5 || many[api.ErrImage] < 10 {
		t.Errorf("the answers were %v", many)
	}
}

// spoil lets a block have another byte, and be whole.
func spoil(t *testing.T, d *disk.Disk, n int, chance *rand.Rand) {
	t.Helper()
	sector, _ := d.Read(n)
	b, e := block.Get(n, sector)
	if e != api.OK {
		t.Fatal(e)
	}
	switch at := chance.Intn(len(b.Body) + 2); {
	case at == len(b.Body):
		b.Kind = api.KindLeaf + chance.Intn(4)
	case at > len(b.Body):
		b.Body = b.Body[:chance.Intn(len(b.Body)+1)]
	default:
		b.Body[at] ^= 1 << chance.Intn(8)
	}
	sector, e = block.Put(n, b)
	if e != api.OK {
		t.Fatal(e)
	}
	d.Write(n, sector)
}

// P19.6: a chunk that goes on ahead of its first block is known at Mount as any other one, till one of its blocks is let go that are ahead of the first one: who lets go block by block comes to that later.
func TestLetAheadOfTheFirst(t *testing.T) {
	g := newGround(t, 200)
	g.do(create(1, "/f"))
	g.do(write(1, "/f", 0, uncut(t)))
	g.collect()
	d := g.turn(150)
	for _, at := range []int{-1, 0, 1, 2} {
		x := &ground{t: t, d: d.Copy()}
		x.mount()
		x.reads(1, "/f", uncut(t))
		var chunk []int
		for _, n := range x.used() {
			if b, _ := x.g.Load(n); b.Kind >= api.KindChunk {
				chunk = append(chunk, n)
			}
		}
		if len(chunk) != 3 || chunk[2] != 150 {
			t.Fatal(chunk)
		}
		x.do(create(1, "/g"))
		free := x.g.Free()
		if at >= 0 && !x.g.Let(chunk[at]) {
			t.Fatal(at)
		}
		x.do(write(1, "/g", 0, uncut(t)))
		if took := free - x.g.Free(); (took > 3) != (at >= 0) {
			t.Errorf("%d blocks were taken behind %d", took, at)
		}
		// What is known now is found again, whatever else is let go.
		x.do(unlink(1, "/f"))
		x.checkpoint()
		x.collect()
		x.do(create(1, "/h"))
		free = x.g.Free()
		x.do(write(1, "/h", 0, uncut(t)))
		if took := free - x.g.Free(); took > 3 {
			t.Errorf("%d blocks were taken behind %d", took, at)
		}
		x.mount()
		x.reads(1, "/g", uncut(t))
		x.reads(1, "/h", uncut(t))
	}
}

// P19.6: what begins later in a block that was let go has nothing to do with what went on ahead of it.
func TestLetFirstOfAll(t *testing.T) {
	g := newGround(t, 200)
	g.do(create(1, "/f"))
	g.do(write(1, "/f", 0, uncut(t)))
	g.collect()
	met := 0
	for first := 70; first < 74; first++ {
		x := &ground{t: t, d: g.turn(first)}
		x.mount()
		x.do(create(1, "/g"))
		var other int
		for _, n := range x.used() {
			if b, _ := x.g.Load(n); b.Kind == api.KindMore {
				other = n
			}
		}
		x.do(unlink(1, "/f"))
		x.g.Let(first)
		x.checkpoint()
		data := ""
		for seed := int64(0); !slices.Contains(x.used(), first) && x.g.Free() > 9; seed++ {
			data = noise(seed, 60)
			x.do(truncate(1, "/g", 0))
			x.do(write(1, "/g", 0, data))
		}
		if b, e := x.g.Load(first); e != api.OK || b.Kind != api.KindChunk {
			continue
		}
		met++
		x.g.Let(other)
		x.do(create(1, "/h"))
		free := x.g.Free()
		x.do(write(1, "/h", 0, data))
		if took := free - x.g.Free(); took > 1 {
			t.Errorf("%d blocks were taken", took)
		}
	}
	if met == 0 {
		t.Error("no chunk begins there")
	}
}

// turn is a copy of a ground's disk, where the first block of its only chunk stands behind the others.
func (g *ground) turn(first int) *disk.Disk {
	g.t.Helper()
	g.checkpoint()
	var chunk int
	for _, n := range g.used() {
		if b, _ := g.g.Load(n); b.Kind == api.KindChunk {
			chunk = n
		}
	}
	b, _ := g.g.Load(chunk)
	sector, e := block.Put(first, b)
	if e != api.OK {
		g.t.Fatal(e)
	}
	val := string([]byte{byte(first >> 8), byte(first), b.Body[1], b.Body[0]})
	x := g.under(api.Entry{Key: "x\x00\x00\x01\x00\x00", Val: val})
	x.d.Write(first, sector)
	x.d.Flush()
	return x.d
}
