package chunks_test

import (
	"bytes"
	"fmt"
	"math/rand"
	"slices"
	"testing"

	"kist/alloc"
	"kist/api"
	"kist/cache"
	"kist/chunks"
	"kist/disk"
	"kist/pack"
)

// ground is a store, with all that it stands on.
type ground struct {
	t *testing.T
	d *disk.Disk
	c *cache.Cache
	m *alloc.Map
	s *chunks.Store
}

func newGround(t *testing.T, blocks, room int) *ground {
	t.Helper()
	d, e := disk.New(50 + blocks)
	c, f := cache.New(d, room)
	m, h := alloc.New(50, 50+blocks)
	if e != api.OK || f != api.OK || h != api.OK {
		t.Fatal(e, f, h)
	}
	s, e := chunks.New(c, m)
	if e != api.OK || s == nil {
		t.Fatalf("New() = %v, %v", s, e)
	}
	return &ground{t, d, c, m, s}
}

func chunk(block, many int) api.Chunk { return api.Chunk{Block: block, Len: many} }

// letters is a run, which goes into one block.
func letters(letter byte, many int) []byte { return bytes.Repeat([]byte{letter}, many) }

// noise is bytes of chance, which no packing makes shorter.
func noise(seed int64, many int) []byte {
	data := make([]byte, many)
	rand.New(rand.NewSource(seed)).Read(data)
	return data
}

func (g *ground) save(data []byte, want api.Chunk, known bool) {
	g.t.Helper()
	if c, was, e := g.s.Save(data); c != want || was != known || e != api.OK {
		g.t.Errorf("Save(%d bytes) = %v, %v, %v, want %v, %v", len(data), c, was, e, want, known)
	}
}

// refuses wants Save to be refused, and to change nothing.
func (g *ground) refuses(data []byte, want api.Errno) {
	g.t.Helper()
	was := g.state()
	if c, known, e := g.s.Save(data); c != (api.Chunk{}) || known || e != want {
		g.t.Errorf("Save(%d bytes) = %v, %v, %v, want %v", len(data), c, known, e, want)
	}
	if got := g.state(); got != was {
		g.t.Errorf("a Save that was refused made %s out of %s", got, was)
	}
}

// state is all that a refused call must leave as it is.
func (g *ground) state() string {
	return fmt.Sprint(g.s.Fresh(), g.s.Found(), g.s.Known(), g.m.Runs(), g.m.Free(), g.m.Dropped(), g.c.Dirty())
}

func (g *ground) loads(c api.Chunk, want []byte) {
	g.t.Helper()
	if data, e := g.s.Load(c); e != api.OK || !bytes.Equal(data, want) {
		g.t.Errorf("Load(%v) = %v, %v, want %v", c, data, e, want)
	}
}

func (g *ground) stands(c api.Chunk, want ...int) {
	g.t.Helper()
	if numbers, e := g.s.Blocks(c); e != api.OK || !slices.Equal(numbers, want) {
		g.t.Errorf("Blocks(%v) = %v, %v, want %v", c, numbers, e, want)
	}
}

func (g *ground) fresh(want ...int) {
	g.t.Helper()
	if got := g.s.Fresh(); !slices.Equal(got, want) {
		g.t.Errorf("Fresh() = %v, want %v", got, want)
	}
}

func (g *ground) found(want ...api.Chunk) {
	g.t.Helper()
	if got := g.s.Found(); !slices.Equal(got, want) {
		g.t.Errorf("Found() = %v, want %v", got, want)
	}
}

// counts wants so many chunks to be known, and so many blocks to be free.
func (g *ground) counts(known, free int) {
	g.t.Helper()
	if g.s.Known() != known || g.m.Free() != free {
		g.t.Errorf("%d are known and %d free, want %d and %d", g.s.Known(), g.m.Free(), known, free)
	}
}

func (g *ground) know(c api.Chunk) {
	g.t.Helper()
	if e := g.s.Know(c); e != api.OK {
		g.t.Errorf("Know(%v) = %v", c, e)
	}
}

func (g *ground) lose(block int, want bool) {
	g.t.Helper()
	if was := g.s.Lose(block); was != want {
		g.t.Errorf("Lose(%d) = %v", block, was)
	}
}

func TestExamples(t *testing.T) {
	g := newGround(t, 20, 4)
	x := letters('x', 100)
	g.save(x, chunk(50, 100), false)
	g.save(x, chunk(50, 100), true)
	g.loads(chunk(50, 100), x)
	g.isAmiss(chunk(50, 99), api.ErrImage)
	g.isAmiss(chunk(51, 1), api.ErrSum)
	g.save(noise(1, 512), chunk(51, 512), false)
	g.stands(chunk(51, 512), 51, 52, 53)
	g.lose(50, true)
	g.save(x, chunk(54, 100), false)
}

// P16.1
func TestNewIsRefusedWithoutCacheOrMap(t *testing.T) {
	g := newGround(t, 9, 9)
	for _, of := range []struct {
		c *cache.Cache
		m *alloc.Map
	}{{nil, nil}, {g.c, nil}, {nil, g.m}} {
		if s, e := chunks.New(of.c, of.m); s != nil || e != api.ErrArg {
			t.Errorf("New(%v, %v) = %v, %v", of.c, of.m, s, e)
		}
	}
}

// P16.1: what another store saved is not known, be it in the same blocks.
func TestNewKnowsNothing(t *testing.T) {
	g := newGround(t, 9, 9)
	g.counts(0, 9)
	g.fresh()
	g.found()
	g.save(letters('x', 9), chunk(50, 9), false)
	s, e := chunks.New(g.c, g.m)
	if e != api.OK {
		t.Fatal(e)
	}
	g.s = s
	g.counts(0, 8)
	g.fresh()
	g.loads(chunk(50, 9), letters('x', 9))
	g.save(letters('x', 9), chunk(51, 9), false)
}

// P16.1
func TestBeginLetsNothingBeNew(t *testing.T) {
	g := newGround(t, 20, 9)
	a, b, c := letters('a', 70), noise(1, 512), letters('c', 80)
	g.save(a, chunk(50, 70), false)
	g.save(b, chunk(51, 512), false)
	g.save(b, chunk(51, 512), true)
	g.fresh(50, 51, 52, 53)
	g.found(chunk(51, 512))
	g.s.Begin()
	g.fresh()
	g.found()
	g.counts(2, 16)
	g.save(c, chunk(54, 80), false)
	g.save(a, chunk(50, 70), true)
	g.fresh(54)
	g.found(chunk(50, 70))
	g.s.Undo()
	g.counts(2, 16)
	g.loads(chunk(50, 70), a)
	g.loads(chunk(51, 512), b)
	g.save(a, chunk(50, 70), true)
	g.save(b, chunk(51, 512), true)
}

// P16.1
func TestUndoLetsAllGo(t *testing.T) {
	g := newGround(t, 20, 9)
	g.save(letters('a', 70), chunk(50, 70), false)
	g.s.Begin()
	g.save(noise(1, 512), chunk(51, 512), false)
	g.save(letters('b', 70), chunk(54, 70), false)
	g.save(letters('a', 70), chunk(50, 70), true)
	g.save(letters('b', 70), chunk(54, 70), true)
	g.found(chunk(50, 70), chunk(54, 70))
	g.s.Undo()
	g.fresh()
	g.found()
	g.counts(1, 19)
	if dirty := g.c.Dirty(); !slices.Equal(dirty, []int{50}) {
		t.Errorf("dirty are %v", dirty)
	}
	g.isAmiss(chunk(51, 512), api.ErrSum)
	g.lose(51, false)
	g.lose(54, false)
	g.s.Undo() // nothing is new: nothing is let go
	g.counts(1, 19)
	g.save(letters('b', 70), chunk(51, 70), false)
	g.fresh(51)
}

// P16.1: what was lost, or told again, is let go no less.
func TestUndoOfWhatIsLostAndTold(t *testing.T) {
	g := newGround(t, 20, 9)
	g.save(noise(1, 400), chunk(50, 400), false)
	g.save(letters('b', 70), chunk(52, 70), false)
	g.lose(50, true)
	g.lose(52, true)
	g.know(chunk(52, 70))
	g.fresh(50, 51, 52)
	g.s.Undo()
	g.counts(0, 20)
}

// P16.1: a chunk that stands in a block that is let go is known no more, whichever of its blocks that is.
func TestUndoOfOneOfAChunksBlocks(t *testing.T) {
	g := newGround(t, 20, 9)
	data := noise(1, 512)
	g.save(data, chunk(50, 512), false)
	first, e := g.c.Get(50)
	if e != api.OK {
		t.Fatal(e)
	}
	g.lay(60, first)
	g.know(chunk(60, 512))
	g.loads(chunk(60, 512), data)
	g.counts(2, 16)
	g.s.Undo()
	g.counts(0, 19)
}

// P16.1: one first block has had two chunks, one after the other.
func TestFoundIsRisingAndEachOnce(t *testing.T) {
	g := newGround(t, 20, 9)
	for i := range 5 {
		g.save(letters(byte(i), 70), chunk(50+i, 70), false)
	}
	g.s.Begin()
	for _, i := range []int{3, 1, 4, 1, 3} {
		g.save(letters(byte(i), 70), chunk(50+i, 70), true)
	}
	g.found(chunk(51, 70), chunk(53, 70), chunk(54, 70))
	g.lose(53, true)
	g.m.Back(53)
	g.save(letters('x', 60), chunk(53, 60), false)
	g.found(chunk(51, 70), chunk(53, 70), chunk(54, 70))
	g.save(letters('x', 60), chunk(53, 60), true)
	g.know(chunk(52, 70))
	g.found(chunk(51, 70), chunk(53, 60), chunk(53, 70), chunk(54, 70))
}

// P16.2
func TestSizesOfAChunk(t *testing.T) {
	g := newGround(t, 20, 9)
	for _, many := range []int{0, 513, 514, 1024, 65536, 65537} {
		g.refuses(noise(1, many), api.ErrArg)
	}
	g.refuses(nil, api.ErrArg)
	g.save(noise(1, 1), chunk(50, 1), false)
	g.save(noise(2, 512), chunk(51, 512), false)
	g.loads(chunk(50, 1), noise(1, 1))
	g.loads(chunk(51, 512), noise(2, 512))
	full := newGround(t, 0, 9)
	full.refuses(noise(1, 513), api.ErrArg)
	full.refuses(noise(1, 1), api.ErrSpace)
}

// bodies is what chunk's blocks are to have, the chapter's words told once more.
func bodies(many int, packed []byte, more ...int) [][]byte {
	first := []byte{byte(many % 256), byte(many / 256), byte(len(packed) % 256), byte(len(packed) / 256), byte(len(more))}
	for _, n := range more {
		first = append(first, byte(n%256), byte(n/256))
	}
	var out [][]byte
	for body := first; ; body = nil {
		fits := min(240-len(body), len(packed))
		out = append(out, append(body, packed[:fits]...))
		if packed = packed[fits:]; len(packed) == 0 {
			return out
		}
	}
}

// P16.2: the numbers of blocks are above 255 here, so that both their bytes are seen.
func TestFormOfAChunksBlocks(t *testing.T) {
	for _, of := range []struct{ many, packed, blocks int }{
		{1, 7, 1}, {127, 133, 1}, {128, 135, 1}, {227, 234, 1}, {228, 235, 1},
		{229, 236, 2}, {230, 237, 2}, {465, 472, 2}, {466, 473, 2},
		{467, 474, 3}, {468, 475, 3}, {512, 519, 3},
	} {
		g := newGround(t, 300, 9)
		for n := 50; n < 300; n++ {
			g.m.Mark(n)
		}
		g.m.Mark(301)
		data := noise(int64(of.many), of.many)
		packed, _ := pack.Pack(data)
		if len(packed) != of.packed {
			t.Fatalf("%d bytes are packed %d", of.many, len(packed))
		}
		g.save(data, chunk(300, of.many), false)
		numbers := []int{300, 302, 303}[:of.blocks]
		g.stands(chunk(300, of.many), numbers...)
		g.fresh(numbers...)
		for i, want := range bodies(of.many, packed, numbers[1:]...) {
			kind := api.KindMore
			if i == 0 {
				kind = api.KindChunk
			}
			if b, e := g.c.Get(numbers[i]); e != api.OK || b.Kind != kind || !bytes.Equal(b.Body, want) {
				t.Errorf("%d bytes: block %d is %v, %v, want %v", of.many, numbers[i], b, e, want)
			}
		}
		if dirty := g.c.Dirty(); !slices.Equal(dirty, numbers) {
			t.Errorf("dirty are %v, want %v", dirty, numbers)
		}
	}
}

// P16.2: bytes that differ in one place, or in how many they are, are others.
func TestBytesThatDifferByLittle(t *testing.T) {
	g := newGround(t, 300, 9)
	data := letters('x', 100)
	g.save(data, chunk(50, 100), false)
	for i := range data {
		data[i]++
		g.save(data, chunk(51+i, 100), false)
		g.save(data, chunk(51+i, 100), true)
		data[i]--
	}
	g.save(data, chunk(50, 100), true)
	g.save(data[:99], chunk(151, 99), false)
	g.save(append(data, 'x'), chunk(152, 101), false)
	g.counts(103, 197)
}

// P16.2
func TestTheOneThatHasBeenKnownLongest(t *testing.T) {
	g := newGround(t, 20, 9)
	x := letters('x', 100)
	for i := range 3 { // 50, 51 and 52 have the same bytes
		g.save(x, chunk(50+i, 100), false)
		g.lose(50+i, true)
	}
	for _, block := range []int{51, 52, 50, 51} {
		g.know(chunk(block, 100))
	}
	g.counts(3, 17)
	g.save(x, chunk(51, 100), true)
	g.lose(51, true)
	g.save(x, chunk(52, 100), true)
	g.know(chunk(51, 100)) // the last one now
	g.lose(52, true)
	g.save(x, chunk(50, 100), true)
	g.lose(50, true)
	g.save(x, chunk(51, 100), true)
	g.lose(51, true)
	g.save(x, chunk(53, 100), false)
}

// P16.2: while three blocks are free ErrSpace does not come; else it takes nothing.
func TestSpace(t *testing.T) {
	for free := range 4 {
		for need, many := range map[int]int{1: 100, 2: 300, 3: 512} {
			g := newGround(t, free+1, 9)
			known := letters('k', 70)
			g.save(known, chunk(50, 70), false)
			if need <= free {
				g.save(noise(1, many), chunk(51, many), false)
				g.counts(2, free-need)
			} else {
				g.refuses(noise(1, many), api.ErrSpace)
				g.counts(1, free)
			}
			g.save(known, chunk(50, 70), true) // that takes none
		}
	}
}

// P16.2: what is set aside is there for Take, and is set aside still when Save is refused.
func TestBlocksThatAreSetAside(t *testing.T) {
	for aside := range 3 {
		g := newGround(t, 2, 9)
		if !g.m.Reserve(aside) {
			t.Fatal("Reserve")
		}
		g.refuses(noise(1, 512), api.ErrSpace)
		if g.m.Free() != 2-aside || g.m.Reserve(3-aside) || !g.m.Reserve(2-aside) {
			t.Errorf("%d were set aside; others are now", aside)
		}
		g.save(noise(1, 400), chunk(50, 400), false)
	}
	g := newGround(t, 5, 9)
	g.m.Reserve(4)
	g.save(noise(1, 512), chunk(50, 512), false)
	if g.m.Free() != 1 {
		t.Errorf("%d are free, and one set aside", g.m.Free())
	}
}

// P16.2: what was given back is not free yet.
func TestBlocksThatAreGivenBack(t *testing.T) {
	g := newGround(t, 3, 9)
	g.save(letters('a', 70), chunk(50, 70), false)
	g.lose(50, true)
	g.m.Drop(50)
	g.refuses(noise(1, 512), api.ErrSpace)
	g.m.Settle()
	g.save(noise(1, 512), chunk(50, 512), false)
}

// R2: a map whose numbers are no blocks of the disk.
func TestBlocksThatThereAreNot(t *testing.T) {
	for _, of := range []struct{ least, end int }{{0, 60}, {48, 60}, {49, 60}, {58, 70}, {59, 70}, {60, 70}} {
		g := newGround(t, 10, 9)
		g.m, _ = alloc.New(of.least, of.end)
		g.s, _ = chunks.New(g.c, g.m)
		g.m.Reserve(2)
		g.refuses(noise(1, 512), api.ErrRange)
		g.counts(0, of.end-of.least-2)
	}
}

// P16.2: someone let go what is known and did not say so; where it stood there is something else now.
func TestChunksThatAreWrittenOver(t *testing.T) {
	g := newGround(t, 20, 9)
	g.save(letters('a', 70), chunk(50, 70), false)
	g.save(letters('b', 70), chunk(51, 70), false)
	g.m.Back(50)
	g.m.Back(51)
	g.save(noise(1, 400), chunk(50, 400), false)
	g.counts(1, 18)
	g.save(letters('a', 70), chunk(52, 70), false)
	g.save(letters('b', 70), chunk(53, 70), false)
	g.lose(50, true)
	g.counts(2, 16)
}

// P16.4
func TestKnow(t *testing.T) {
	g := newGround(t, 20, 9)
	a, b := letters('a', 70), noise(1, 512)
	g.save(a, chunk(50, 70), false)
	g.save(b, chunk(51, 512), false)
	if e := g.c.Flush(); e != api.OK {
		t.Fatal(e)
	}
	g.c, _ = cache.New(g.d, 2)
	g.s, _ = chunks.New(g.c, g.m)
	for range 2 {
		g.know(chunk(50, 70))
		g.counts(1, 16)
	}
	g.know(chunk(51, 512))
	g.counts(2, 16)
	g.fresh()
	g.found()
	for _, of := range []struct {
		c    api.Chunk
		want api.Errno
	}{
		{chunk(50, 71), api.ErrImage}, {chunk(52, 512), api.ErrImage}, {chunk(54, 1), api.ErrSum},
		{chunk(49, 1), api.ErrRange}, {chunk(70, 1), api.ErrRange}, {chunk(50, 0), api.ErrArg}, {chunk(70, 513), api.ErrArg},
	} {
		g.isAmiss(of.c, of.want)
	}
	g.counts(2, 16)
	g.save(a, chunk(50, 70), true)
	g.save(b, chunk(51, 512), true)
	g.s.Undo() // what was told is not new
	g.counts(2, 16)
}

// P16.4
func TestLose(t *testing.T) {
	g := newGround(t, 20, 9)
	g.lose(50, false)
	g.save(noise(1, 512), chunk(50, 512), false)
	g.save(letters('a', 70), chunk(53, 70), false)
	for _, block := range []int{-1, 0, 49, 51, 52, 54, 70} {
		g.lose(block, false)
	}
	g.counts(2, 16)
	g.lose(50, true)
	g.lose(50, false)
	g.counts(1, 16)
	g.loads(chunk(50, 512), noise(1, 512)) // it is there still
	g.fresh(50, 51, 52, 53)
	g.save(noise(1, 512), chunk(54, 512), false)
	g.counts(2, 13)
}

// P16.5
func TestLoadOfSaveAreTheBytes(t *testing.T) {
	for many := 1; many <= 512; many++ {
		g := newGround(t, 12, 2)
		of := [][]byte{noise(int64(many), many), letters('x', many), bytes.Repeat([]byte("abcdefg"), 80)[:many], text(int64(many), many)}
		for _, data := range of {
			c, known, e := g.s.Save(data)
			if e != api.OK || c.Len != many || (known && many > 7) {
				t.Fatalf("Save(%d bytes) = %v, %v, %v", many, c, known, e)
			}
			g.loads(c, data)
			if many%3 == 0 && g.c.Flush() != api.OK {
				t.Fatal("Flush")
			}
			g.loads(c, data)
			free := g.m.Free()
			for range 3 {
				g.save(data, c, true)
			}
			if g.m.Free() != free {
				t.Errorf("%d bytes that are known took %d blocks", many, free-g.m.Free())
			}
		}
	}
}

// text is bytes of few kinds, which codes make shorter.
func text(seed int64, many int) []byte {
	data := noise(seed, many)
	for i, b := range data {
		data[i] = 'a' + b%11
	}
	return data
}

// P16.5: with room for one clean block, whatever lies on the disk is read again and again.
func TestChunksFromTheDisk(t *testing.T) {
	g := newGround(t, 100, 1)
	var all []api.Chunk
	for i := range 30 {
		c, _, e := g.s.Save(noise(int64(i), 17*i+1))
		if e != api.OK {
			t.Fatal(e)
		}
		all = append(all, c)
	}
	if g.c.Flush() != api.OK {
		t.Fatal("Flush")
	}
	free := g.m.Free()
	for i, c := range all {
		g.loads(c, noise(int64(i), 17*i+1))
		g.save(noise(int64(i), 17*i+1), c, true)
	}
	g.found(all...)
	g.counts(30, free)
}

// R4
func TestWhatIsHandedInIsNotKept(t *testing.T) {
	g := newGround(t, 20, 9)
	for _, many := range []int{5, 100, 300, 512} {
		room := append(noise(int64(many), many), letters('z', 600)...)
		data := room[:many]
		was := bytes.Clone(room)
		c, _, e := g.s.Save(data)
		if e != api.OK || !bytes.Equal(room, was) {
			t.Fatalf("Save(%d bytes): %v, or they were changed", many, e)
		}
		for i := range room {
			room[i] = 0
		}
		g.loads(c, was[:many])
		g.save(was[:many], c, true)
	}
}

// R4
func TestWhatIsAnsweredIsNewMemory(t *testing.T) {
	g := newGround(t, 20, 9)
	data := noise(1, 512)
	c := chunk(50, 512)
	g.save(data, c, false)
	g.save(data, c, true)
	for range 2 {
		spoil(t, g.s.Fresh)
		spoil(t, g.s.Found)
		spoil(t, func() []byte { out, _ := g.s.Load(c); return out })
		spoil(t, func() []int { out, _ := g.s.Blocks(c); return out })
		g.fresh(50, 51, 52)
		g.found(c)
		g.loads(c, data)
		g.stands(c, 50, 51, 52)
		g.lose(50, true)
		g.know(c)
	}
	g.save(data, c, true)
	g.s.Undo()
	g.counts(0, 20)
}

// spoil writes over what a call answers, and over its spare room.
func spoil[T any](t *testing.T, call func() []T) {
	t.Helper()
	answer := call()
	if len(answer) == 0 {
		t.Error("it answers nothing")
	}
	clear(answer[:cap(answer)])
}
