package chunks_test

import (
	"bytes"
	"math"
	"slices"
	"testing"

	"kist/alloc"
	"kist/api"
	"kist/bits"
	"kist/cache"
	"kist/chunks"
	"kist/pack"
	"kist/sums"
)

// lay puts a block into the cache by hand.
func (g *ground) lay(number int, b api.Block) {
	g.t.Helper()
	g.m.Mark(number)
	if e := g.c.Put(number, b); e != api.OK {
		g.t.Fatalf("block %d: %v", number, e)
	}
}

func (g *ground) layFirst(number int, body []byte) {
	g.t.Helper()
	g.lay(number, api.Block{Kind: api.KindChunk, Body: body})
}

func (g *ground) layMore(number int, body []byte) {
	g.t.Helper()
	g.lay(number, api.Block{Kind: api.KindMore, Body: body})
}

// isAmiss wants Load, Blocks and Know to be refused, and to change nothing.
func (g *ground) isAmiss(c api.Chunk, want api.Errno) {
	g.t.Helper()
	if numbers, e := g.s.Blocks(c); len(numbers) != 0 || e != want {
		g.t.Errorf("Blocks(%v) = %v, %v, want %v", c, numbers, e, want)
	}
	g.isUnread(c, want)
}

// isUnread wants those to be refused that look at what is packed.
func (g *ground) isUnread(c api.Chunk, want api.Errno) {
	g.t.Helper()
	was := g.state()
	if data, e := g.s.Load(c); len(data) != 0 || e != want {
		g.t.Errorf("Load(%v) = %v, %v, want %v", c, data, e, want)
	}
	if e := g.s.Know(c); e != want {
		g.t.Errorf("Know(%v) = %v, want %v", c, e, want)
	}
	if got := g.state(); got != was {
		g.t.Errorf("refused calls made %s out of %s", got, was)
	}
}

// packedOf is bytes packed, which are to be so many then.
func packedOf(t *testing.T, data []byte, many int) []byte {
	t.Helper()
	packed, e := pack.Pack(data)
	if e != api.OK || len(packed) != many {
		t.Fatalf("%d bytes are packed %d, want %d", len(data), len(packed), many)
	}
	return packed
}

// P16.3
func TestLengthsThatMayNotBe(t *testing.T) {
	g := newGround(t, 20, 9)
	g.save(letters('x', 9), chunk(50, 9), false)
	for _, many := range []int{math.MinInt, -1, 0, 513, 65536 + 9, math.MaxInt} {
		for _, block := range []int{math.MinInt, 0, 50, 51, 70, math.MaxInt} {
			g.isAmiss(chunk(block, many), api.ErrArg)
		}
	}
	for _, many := range []int{1, 8, 10, 512} {
		g.isAmiss(chunk(50, many), api.ErrImage)
	}
}

// P16.3
func TestFirstBlocksThatThereAreNot(t *testing.T) {
	g := newGround(t, 20, 9)
	for _, block := range []int{math.MinInt, -1, 0, 1, 49, 70, 71, 65536 + 50, math.MaxInt} {
		g.isAmiss(chunk(block, 9), api.ErrRange)
	}
	g.isAmiss(chunk(50, 9), api.ErrSum)
}

// P16.3
func TestBlocksOfOtherKinds(t *testing.T) {
	data := letters('x', 9)
	body := bodies(9, packedOf(t, data, 7))[0]
	for kind := api.KindLeaf; kind <= api.KindMore; kind++ {
		g := newGround(t, 20, 9)
		g.lay(55, api.Block{Kind: kind, Body: body})
		if kind == api.KindChunk {
			g.loads(chunk(55, 9), data)
			g.stands(chunk(55, 9), 55)
			continue
		}
		g.isAmiss(chunk(55, 9), api.ErrImage)
	}
}

// P16.3
func TestFirstBlocksOfNoForm(t *testing.T) {
	packed := packedOf(t, letters('x', 9), 7)
	body := bodies(9, packed)[0]
	amiss := map[string][]byte{
		"a byte too many":            append(slices.Clone(body), 0),
		"a packed byte fewer told":   append([]byte{9, 0, 6, 0, 0}, packed...),
		"a packed byte more told":    append([]byte{9, 0, 8, 0, 0}, packed...),
		"far more packed bytes":      append([]byte{9, 0, 7, 1, 0}, packed...),
		"another length":             append([]byte{10, 0, 7, 0, 0}, packed...),
		"another length's high byte": append([]byte{9, 1, 7, 0, 0}, packed...),
		"one more block than needed": append([]byte{9, 0, 7, 0, 1, 51, 0}, packed...),
		"two more than needed":       append([]byte{9, 0, 7, 0, 2, 51, 0, 52, 0}, packed...),
		"three":                      append([]byte{9, 0, 7, 0, 3, 51, 0, 52, 0, 53, 0}, packed...),
		"255":                        append([]byte{9, 0, 7, 0, 255}, packed...),
	}
	for n := range body {
		amiss["cut "+string(rune('0'+n))] = body[:n]
	}
	for what, body := range amiss {
		g := newGround(t, 20, 9)
		for n := 51; n < 54; n++ {
			g.layMore(n, nil)
		}
		g.layFirst(50, body)
		t.Log(what)
		g.isAmiss(chunk(50, 9), api.ErrImage)
	}
}

// P16.3: as few as may be, and all that goes into a block is there.
func TestMoreOrFewerBlocksThanNeeded(t *testing.T) {
	for _, of := range []struct{ many, packed, more int }{
		{228, 235, 1}, {228, 235, 2}, {229, 236, 0}, {229, 236, 2}, {466, 473, 0}, {466, 473, 2}, {467, 474, 0}, {467, 474, 1}, {512, 519, 1}, {512, 519, 3},
	} {
		g := newGround(t, 20, 9)
		packed := packedOf(t, noise(int64(of.many), of.many), of.packed)
		// Each block is as full as it can be, as if these were as few as may be.
		all := bodies(of.many, packed, []int{51, 52, 53}[:of.more]...)
		g.layFirst(50, all[0])
		for i := 1; i <= max(of.more, len(all)-1); i++ {
			var body []byte
			if i < len(all) {
				body = all[i]
			}
			g.layMore(50+i, body)
		}
		g.isAmiss(chunk(50, of.many), api.ErrImage)
	}
}

// three is a chunk of 512 bytes by hand in the blocks 60, 55 and 67, and its bodies.
func (g *ground) three() ([]byte, [][]byte) {
	data := noise(9, 512)
	all := bodies(512, packedOf(g.t, data, 519), 55, 67)
	g.layFirst(60, all[0])
	g.layMore(55, all[1])
	g.layMore(67, all[2])
	return data, all
}

// P16.3
func TestChunksOfAnyBlocks(t *testing.T) {
	g := newGround(t, 20, 9)
	data, _ := g.three()
	g.loads(chunk(60, 512), data)
	g.stands(chunk(60, 512), 60, 55, 67)
	g.know(chunk(60, 512))
	g.save(data, chunk(60, 512), true)
	g.isAmiss(chunk(55, 512), api.ErrImage)
	g.isAmiss(chunk(60, 511), api.ErrImage)
}

// P16.3
func TestOtherBlocksThatAreAmiss(t *testing.T) {
	for _, at := range []int{1, 2} {
		number := []int{60, 55, 67}[at]
		g := newGround(t, 20, 9)
		_, all := g.three()
		for _, b := range []api.Block{
			{Kind: api.KindChunk, Body: all[at]},
			{Kind: api.KindLeaf, Body: all[at]},
			{Kind: api.KindInner, Body: all[at]},
			{Kind: api.KindMore},
			{Kind: api.KindMore, Body: all[at][1:]},
			{Kind: api.KindMore, Body: all[3-at]},
			{Kind: api.KindMore, Body: append(slices.Clone(all[2]), 0)},
		} {
			g.lay(number, b)
			g.isAmiss(chunk(60, 512), api.ErrImage)
		}
		g.c.Forget(number)
		g.isAmiss(chunk(60, 512), api.ErrSum)
	}
}

// P16.3: the first one that is amiss tells its error.
func TestTheFirstThatIsAmiss(t *testing.T) {
	g := newGround(t, 20, 9)
	_, all := g.three()
	g.c.Forget(67)
	g.isAmiss(chunk(60, 512), api.ErrSum)
	g.layMore(55, nil)
	g.isAmiss(chunk(60, 512), api.ErrImage)
	g.c.Forget(55)
	g.layMore(67, nil)
	g.isAmiss(chunk(60, 512), api.ErrSum)
	g.isAmiss(chunk(60, 511), api.ErrImage)
	g.layFirst(60, all[0][:239])
	g.isAmiss(chunk(60, 512), api.ErrImage)
	g.c.Forget(60)
	g.layMore(55, nil)
	g.isAmiss(chunk(60, 512), api.ErrSum)
}

// P16.3: what is packed is looked at last of all, and by Blocks not at all.
func TestNumbersThatThereAreNot(t *testing.T) {
	for _, of := range []struct {
		more [2]int
		want api.Errno
	}{
		{[2]int{0, 67}, api.ErrRange}, {[2]int{49, 67}, api.ErrRange}, {[2]int{70, 67}, api.ErrRange}, {[2]int{65535, 67}, api.ErrRange},
		{[2]int{55, 0}, api.ErrRange}, {[2]int{55, 70}, api.ErrRange}, {[2]int{55, 65535}, api.ErrRange},
		{[2]int{50, 70}, api.ErrSum}, {[2]int{70, 50}, api.ErrRange},
		{[2]int{60, 70}, api.ErrImage}, {[2]int{55, 60}, api.ErrImage}, {[2]int{55, 55}, api.ErrImage}, {[2]int{67, 55}, api.ErrImage},
	} {
		g := newGround(t, 20, 9)
		g.three()
		g.layFirst(60, bodies(512, packedOf(t, noise(9, 512), 519), of.more[:]...)[0])
		g.isAmiss(chunk(60, 512), of.want)
	}
}

// P16.3: two more blocks are two, though what stands in one would go into both.
func TestOneBlockTwice(t *testing.T) {
	g := newGround(t, 20, 9)
	all := bodies(512, make([]byte, 711), 55, 55)
	g.layFirst(60, all[0])
	g.layMore(55, all[1])
	g.isAmiss(chunk(60, 512), api.ErrImage)
	g.layFirst(60, bodies(512, make([]byte, 711), 55, 67)[0])
	g.layMore(67, all[1])
	g.stands(chunk(60, 512), 60, 55, 67)
	g.isUnread(chunk(60, 512), api.ErrImage)
}

// P16.3: at most two more, though so many bytes need three.
func TestThreeMoreBlocks(t *testing.T) {
	for _, of := range []struct{ packed, more int }{{711, 2}, {712, 3}, {949, 3}, {950, 4}} {
		g := newGround(t, 20, 9)
		all := bodies(512, make([]byte, of.packed), []int{51, 52, 53, 54}[:of.more]...)
		g.layFirst(50, all[0])
		for i, body := range all[1:] {
			g.layMore(51+i, body)
		}
		if of.more == 2 {
			g.stands(chunk(50, 512), 50, 51, 52)
			continue
		}
		g.isAmiss(chunk(50, 512), api.ErrImage)
	}
}

// summed is packed bytes with the sum of the unpacked ones behind.
func summed(packed []byte, data []byte) []byte {
	sum := sums.Crc(data)
	return append(packed, byte(sum), byte(sum>>8), byte(sum>>16), byte(sum>>24))
}

// P16.3: any packed bytes will do that are just so many bytes unpacked.
func TestWhatIsPacked(t *testing.T) {
	x := letters('x', 100)
	whole := packedOf(t, x, 7)
	turned := slices.Clone(whole)
	turned[4] ^= 1
	longer, _ := pack.Pack(letters('x', 101))
	shorter, _ := pack.Pack(letters('x', 99))
	none, _ := pack.Pack(nil)
	for _, packed := range [][]byte{nil, {0}, turned, longer, shorter, none, whole[:6], append(slices.Clone(whole), 0), append([]byte{3}, whole[1:]...)} {
		g := newGround(t, 20, 9)
		g.layFirst(50, bodies(100, packed)[0])
		g.stands(chunk(50, 100), 50)
		g.isUnread(chunk(50, 100), api.ErrImage)
	}
	head, _ := bits.PutNum([]byte{0}, 100)
	g := newGround(t, 20, 9)
	g.layFirst(50, bodies(100, summed(append(head, x...), x))[0])
	g.stands(chunk(50, 100), 50)
	g.loads(chunk(50, 100), x)
	g.know(chunk(50, 100))
	g.save(x, chunk(50, 100), true)
}

// P16.3: any change of any byte of a chunk's blocks that is put by hand is told, or is none of the bytes.
func TestBytesThatAreTurned(t *testing.T) {
	g := newGround(t, 20, 9)
	data, all := g.three()
	for i, body := range all {
		kind := []int{api.KindChunk, api.KindMore, api.KindMore}[i]
		number := []int{60, 55, 67}[i]
		for at := range body {
			other := slices.Clone(body)
			other[at] ^= byte(1 + at%255)
			g.lay(number, api.Block{Kind: kind, Body: other})
			if got, e := g.s.Load(chunk(60, 512)); e == api.OK || len(got) != 0 {
				t.Errorf("block %d, byte %d: %d bytes, %v", number, at, len(got), e)
			}
		}
		g.lay(number, api.Block{Kind: kind, Body: body})
	}
	g.loads(chunk(60, 512), data)
}

// P16.3 and T5: a bit that rots is the cache's error, in whichever block.
func TestRot(t *testing.T) {
	g := newGround(t, 6, 1)
	data := noise(3, 512)
	g.save(data, chunk(50, 512), false)
	if g.c.Flush() != api.OK {
		t.Fatal("Flush")
	}
	g.d.Flush()
	for bit := 50 * 2048; bit < 53*2048; bit += 7 {
		d := g.d.Copy()
		if d.Rot(bit) != api.OK {
			t.Fatal("Rot")
		}
		c, _ := cache.New(d, 1)
		m, _ := alloc.New(50, 56)
		s, _ := chunks.New(c, m)
		other := &ground{t, d, c, m, s}
		other.isAmiss(chunk(50, 512), api.ErrSum)
	}
}

// P16.2: a chunk that rots has these bytes no more, so they are kept once again, and found there from then on.
func TestSaveOfWhatRots(t *testing.T) {
	g := newGround(t, 20, 1)
	data := noise(3, 400)
	g.save(data, chunk(50, 400), false)
	if g.c.Flush() != api.OK {
		t.Fatal("Flush")
	}
	g.d.Flush()
	g.d.Rot(50*2048 + 99)
	g.c.Forget(50)
	g.s.Begin()
	g.save(data, chunk(52, 400), false)
	g.save(data, chunk(52, 400), true)
	g.counts(2, 16)
	g.found(chunk(52, 400))
	if got, e := g.s.Load(chunk(52, 400)); e != api.OK || !bytes.Equal(got, data) {
		t.Errorf("Load() = %v, %v", got, e)
	}
	g.lose(50, true)
	g.save(data, chunk(52, 400), true)
}
