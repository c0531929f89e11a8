package cache_test

import (
	"bytes"
	"math"
	"slices"
	"testing"

	"kist/api"
	"kist/block"
	"kist/cache"
	"kist/disk"
)

func newDisk(t *testing.T, sectors int) *disk.Disk {
	t.Helper()
	d, e := disk.New(sectors)
	if e != api.OK {
		t.Fatalf("disk.New(%d): %v", sectors, e)
	}
	return d
}

func newCache(t *testing.T, sectors, room int) (*cache.Cache, *disk.Disk) {
	t.Helper()
	d := newDisk(t, sectors)
	c, e := cache.New(d, room)
	if e != api.OK || c == nil {
		t.Fatalf("New(%d sectors, %d) = %v, %v", sectors, room, c, e)
	}
	return c, d
}

func chunk(body string) api.Block { return api.Block{Kind: api.KindChunk, Body: []byte(body)} }

func same(a, b api.Block) bool { return a.Kind == b.Kind && bytes.Equal(a.Body, b.Body) }

// lay writes a block into its sector, past the cache.
func lay(t *testing.T, d *disk.Disk, n int, b api.Block) {
	t.Helper()
	sector, e := block.Put(n, b)
	if e != api.OK || d.Write(n, sector) != api.OK {
		t.Fatalf("block %d is not laid: %v", n, e)
	}
}

// has wants the disk's sector to be that of the block.
func has(t *testing.T, d *disk.Disk, n int, want api.Block) {
	t.Helper()
	sector, e := block.Put(n, want)
	if got, f := d.Read(n); e != api.OK || f != api.OK || !bytes.Equal(got, sector) {
		t.Errorf("sector %d has %v, want %v", n, got, sector)
	}
}

// hasNought wants the disk's sectors to be as new ones.
func hasNought(t *testing.T, d *disk.Disk, numbers ...int) {
	t.Helper()
	for _, n := range numbers {
		if got, e := d.Read(n); e != api.OK || !bytes.Equal(got, make([]byte, api.SectorSize)) {
			t.Errorf("sector %d has %v, want bytes 0", n, got)
		}
	}
}

func puts(t *testing.T, c *cache.Cache, n int, b api.Block) {
	t.Helper()
	if e := c.Put(n, b); e != api.OK {
		t.Errorf("Put(%d, %v) = %v", n, b, e)
	}
}

func gets(t *testing.T, c *cache.Cache, n int, want api.Block) {
	t.Helper()
	if got, e := c.Get(n); e != api.OK || !same(got, want) {
		t.Errorf("Get(%d) = %v, %v, want %v", n, got, e, want)
	}
}

func refused(t *testing.T, c *cache.Cache, want api.Errno, numbers ...int) {
	t.Helper()
	for _, n := range numbers {
		if got, e := c.Get(n); e != want || got.Kind != 0 || got.Body != nil {
			t.Errorf("Get(%d) = %v, %v, want nothing and %v", n, got, e, want)
		}
	}
}

func flushes(t *testing.T, c *cache.Cache) {
	t.Helper()
	if e := c.Flush(); e != api.OK {
		t.Errorf("Flush() = %v", e)
	}
}

func tells(t *testing.T, c *cache.Cache, dirty, clean []int) {
	t.Helper()
	if got := c.Dirty(); !slices.Equal(got, dirty) {
		t.Errorf("Dirty() = %v, want %v", got, dirty)
	}
	if got := c.Clean(); !slices.Equal(got, clean) {
		t.Errorf("Clean() = %v, want %v", got, clean)
	}
}

// some is a cache of room 3 on 60 sectors; the blocks a to h lie at 50 to 57, and 58 and 59 have none.
func some(t *testing.T) (*cache.Cache, *disk.Disk) {
	t.Helper()
	c, d := newCache(t, 60, 3)
	for i, b := range blocks() {
		lay(t, d, 50+i, b)
	}
	d.Flush()
	return c, d
}

func blocks() []api.Block {
	var all []api.Block
	for _, body := range "abcdefgh" {
		all = append(all, chunk(string(body)))
	}
	return all
}

// strange is numbers that a disk of 60 sectors has no block of.
func strange() []int {
	return []int{math.MinInt, -60, -50, -1, 0, 1, 2, 48, 49, 60, 61, 110, 4095, 65535, 65536, 65536 + 50, 1<<32 + 50, math.MaxInt}
}

func TestExamples(t *testing.T) {
	c, _ := newCache(t, 60, 2)
	refused(t, c, api.ErrSum, 50)
	refused(t, c, api.ErrRange, 49, 60)
	puts(t, c, 52, chunk("a"))
	puts(t, c, 50, chunk("b"))
	gets(t, c, 52, chunk("a"))
	tells(t, c, []int{50, 52}, nil)
	flushes(t, c)
	tells(t, c, nil, []int{50, 52})
	puts(t, c, 51, chunk("c"))
	flushes(t, c)
	tells(t, c, nil, []int{52, 51})
	gets(t, c, 50, chunk("b"))
	tells(t, c, nil, []int{51, 50})
}

// P13.1

func TestNewRefuses(t *testing.T) {
	d := newDisk(t, 60)
	for _, room := range []int{math.MinInt, -1024, -1, 0, 1025, 1026, 1 << 32, 1<<32 + 1, math.MaxInt} {
		if c, e := cache.New(d, room); e != api.ErrArg || c != nil {
			t.Errorf("New(d, %d) = %v, %v", room, c, e)
		}
	}
	for _, room := range []int{-1, 0, 1, 32, 1024, 1025} {
		if c, e := cache.New(nil, room); e != api.ErrArg || c != nil {
			t.Errorf("New(nil, %d) = %v, %v", room, c, e)
		}
	}
}

func TestNewIsEmpty(t *testing.T) {
	for _, room := range []int{1, 2, 32, 1023, 1024} {
		for _, sectors := range []int{1, 49, 50, 51, 60, 4096} {
			c, d := newCache(t, sectors, room)
			tells(t, c, nil, nil)
			flushes(t, c)
			tells(t, c, nil, nil)
			if got := d.Dirty(); len(got) > 0 {
				t.Errorf("sectors %v were written", got)
			}
		}
	}
}

// Two caches of one disk know of one another only by what is written.
func TestNewIsOfItsOwn(t *testing.T) {
	one, d := newCache(t, 60, 2)
	other, _ := cache.New(d, 2)
	puts(t, one, 50, chunk("a"))
	refused(t, other, api.ErrSum, 50)
	tells(t, other, nil, nil)
	flushes(t, one)
	gets(t, other, 50, chunk("a"))
}

// P13.2

func TestWhatThereIsNot(t *testing.T) {
	c, _ := some(t)
	puts(t, c, 51, chunk("x"))
	gets(t, c, 50, chunk("a"))
	refused(t, c, api.ErrRange, strange()...)
	for _, n := range strange() {
		if e := c.Put(n, chunk("y")); e != api.ErrRange {
			t.Errorf("Put(%d) = %v", n, e)
		}
		c.Forget(n)
	}
	tells(t, c, []int{51}, []int{50})
}

func TestTheFirstBlockAndTheLast(t *testing.T) {
	for _, sectors := range []int{1, 2, 49, 50, 51, 52, 128, 4095, 4096} {
		c, _ := newCache(t, sectors, 4)
		for _, n := range []int{-1, 0, 1, 49, 50, 51, sectors - 2, sectors - 1, sectors, sectors + 1} {
			if n < 50 || n >= sectors {
				refused(t, c, api.ErrRange, n)
				if e := c.Put(n, chunk("a")); e != api.ErrRange {
					t.Errorf("of %d sectors: Put(%d) = %v", sectors, n, e)
				}
				continue
			}
			c.Forget(n) // some of these numbers may be alike
			refused(t, c, api.ErrSum, n)
			puts(t, c, n, chunk("a"))
			gets(t, c, n, chunk("a"))
		}
	}
}

func TestGetReadsTheDisk(t *testing.T) {
	c, d := some(t)
	for i, b := range blocks() {
		gets(t, c, 50+i, b)
	}
	lay(t, d, 58, api.Block{Kind: api.KindLeaf})
	lay(t, d, 59, api.Block{Kind: api.KindMore, Body: bytes.Repeat([]byte{255}, 240)})
	gets(t, c, 58, api.Block{Kind: api.KindLeaf}) // it is not flushed, and still is what the sector has
	gets(t, c, 59, api.Block{Kind: api.KindMore, Body: bytes.Repeat([]byte{255}, 240)})
}

func TestGetTellsTheBlocksError(t *testing.T) {
	c, d := some(t)
	gets(t, c, 50, chunk("a"))
	gets(t, c, 51, chunk("b"))
	gets(t, c, 52, chunk("c"))
	refused(t, c, api.ErrSum, 58, 59) // bytes 0 have another sum
	other, _ := d.Read(53)
	if d.Write(59, other) != api.OK {
		t.Fatal("Write")
	}
	refused(t, c, api.ErrImage, 59) // it is the block 53
	if d.Rot(2048*54+3) != api.OK {
		t.Fatal("Rot")
	}
	refused(t, c, api.ErrSum, 54)
	tells(t, c, nil, []int{50, 51, 52}) // nothing was forgotten for what is none
	lay(t, d, 59, chunk("z"))
	gets(t, c, 59, chunk("z")) // an error is not kept
	tells(t, c, nil, []int{51, 52, 59})
}

// A block that is in the cache is told, whatever became of its sector.
func TestGetOfWhatIsInTheCache(t *testing.T) {
	c, d := some(t)
	gets(t, c, 50, chunk("a"))
	puts(t, c, 51, chunk("x"))
	lay(t, d, 50, chunk("other"))
	lay(t, d, 51, chunk("other"))
	gets(t, c, 50, chunk("a"))
	gets(t, c, 51, chunk("x"))
	d.Rot(2048 * 50)
	d.Rot(2048 * 51)
	gets(t, c, 50, chunk("a"))
	gets(t, c, 51, chunk("x"))
	c.Forget(50)
	c.Forget(51)
	refused(t, c, api.ErrSum, 50, 51)
}

func TestTheOneAskedLongestAgoIsForgotten(t *testing.T) {
	c, d := some(t)
	for i, want := range [][]int{{50}, {50, 51}, {50, 51, 52}, {51, 52, 53}, {52, 53, 54}} {
		gets(t, c, 50+i, blocks()[i])
		tells(t, c, nil, want)
	}
	gets(t, c, 53, chunk("d"))
	tells(t, c, nil, []int{52, 54, 53})
	gets(t, c, 52, chunk("c"))
	tells(t, c, nil, []int{54, 53, 52})
	gets(t, c, 52, chunk("c"))
	tells(t, c, nil, []int{54, 53, 52})
	gets(t, c, 55, chunk("f"))
	tells(t, c, nil, []int{53, 52, 55})
	lay(t, d, 52, chunk("other"))
	lay(t, d, 54, chunk("other"))
	gets(t, c, 52, chunk("c"))     // it was in the cache
	gets(t, c, 54, chunk("other")) // it was not
	tells(t, c, nil, []int{55, 52, 54})
}

func TestRoomOfOne(t *testing.T) {
	c, d := newCache(t, 60, 1)
	lay(t, d, 50, chunk("a"))
	lay(t, d, 51, chunk("b"))
	for range 3 {
		gets(t, c, 50, chunk("a"))
		tells(t, c, nil, []int{50})
		gets(t, c, 50, chunk("a"))
		tells(t, c, nil, []int{50})
		gets(t, c, 51, chunk("b"))
		tells(t, c, nil, []int{51})
	}
}

func TestTheGreatestRoom(t *testing.T) {
	c, d := newCache(t, 4096, 1024)
	var order []int
	for i := range 1030 {
		n := 50 + i*3
		lay(t, d, n, chunk("a"))
		gets(t, c, n, chunk("a"))
		order = append(order, n)
		tells(t, c, nil, order[max(0, len(order)-1024):])
	}
}

// The dirty ones take none of the room, and asking for them changes no order.
func TestDirtyOnesTakeNoRoom(t *testing.T) {
	c, _ := some(t)
	gets(t, c, 50, chunk("a"))
	gets(t, c, 51, chunk("b"))
	gets(t, c, 52, chunk("c"))
	for _, n := range []int{59, 53, 58, 54, 57} {
		puts(t, c, n, chunk("x"))
	}
	for _, n := range []int{57, 59, 53, 59} {
		gets(t, c, n, chunk("x"))
	}
	tells(t, c, []int{53, 54, 57, 58, 59}, []int{50, 51, 52})
	flushes(t, c)
	tells(t, c, nil, []int{57, 58, 59})
}

// P13.3

func TestPutRefuses(t *testing.T) {
	c, d := some(t)
	gets(t, c, 51, chunk("b"))
	gets(t, c, 50, chunk("a"))
	puts(t, c, 52, chunk("x"))
	for _, n := range []int{50, 51, 52, 53, 59} {
		for _, b := range []api.Block{
			{}, {Kind: 5}, {Kind: -1}, {Kind: 257}, {Kind: math.MinInt}, {Kind: math.MaxInt}, {Body: []byte("a")},
			{Kind: api.KindLeaf, Body: make([]byte, 241)}, {Kind: api.KindMore, Body: make([]byte, 256)}, {Kind: 5, Body: make([]byte, 1000)},
		} {
			if e := c.Put(n, b); e != api.ErrArg {
				t.Errorf("Put(%d, kind %d, %d bytes) = %v", n, b.Kind, len(b.Body), e)
			}
		}
	}
	tells(t, c, []int{52}, []int{51, 50})
	gets(t, c, 52, chunk("x"))
	gets(t, c, 51, chunk("b"))
	if got := d.Dirty(); len(got) > 0 {
		t.Errorf("sectors %v were written", got)
	}
}

// R2: a number that there is not is told ahead of a block that may not be.
func TestPutTellsTheRangeFirst(t *testing.T) {
	c, _ := newCache(t, 60, 2)
	for _, n := range strange() {
		if e := c.Put(n, api.Block{}); e != api.ErrRange {
			t.Errorf("Put(%d, {}) = %v", n, e)
		}
	}
}

func TestPutOfAllThatMayBe(t *testing.T) {
	c, d := newCache(t, 60, 1)
	for kind := api.KindLeaf; kind <= api.KindMore; kind++ {
		for _, length := range []int{0, 1, 239, 240} {
			b := api.Block{Kind: kind, Body: bytes.Repeat([]byte{byte(length)}, length)}
			puts(t, c, 59, b)
			gets(t, c, 59, b)
			flushes(t, c)
			has(t, d, 59, b)
			gets(t, c, 59, b)
			c.Forget(59)
			gets(t, c, 59, b)
		}
	}
}

// A clean one that is put is dirty, and no clean one any more.
func TestPutOfACleanOne(t *testing.T) {
	c, d := some(t)
	gets(t, c, 50, chunk("a"))
	gets(t, c, 51, chunk("b"))
	gets(t, c, 52, chunk("c"))
	puts(t, c, 51, chunk("x"))
	tells(t, c, []int{51}, []int{50, 52})
	gets(t, c, 53, chunk("d")) // there is room for it now
	tells(t, c, []int{51}, []int{50, 52, 53})
	puts(t, c, 51, chunk("y"))
	puts(t, c, 53, chunk("d")) // the same as on the disk, and dirty still
	tells(t, c, []int{51, 53}, []int{50, 52})
	flushes(t, c)
	tells(t, c, nil, []int{52, 51, 53})
	has(t, d, 51, chunk("y"))
	if got := d.Dirty(); !slices.Equal(got, []int{51, 53}) {
		t.Errorf("sectors %v were written", got)
	}
}

func TestForget(t *testing.T) {
	c, d := some(t)
	gets(t, c, 50, chunk("a"))
	gets(t, c, 51, chunk("b"))
	gets(t, c, 52, chunk("c"))
	puts(t, c, 53, chunk("x"))
	puts(t, c, 59, chunk("y"))
	c.Forget(57) // it is not in the cache
	c.Forget(58) // there is no block
	tells(t, c, []int{53, 59}, []int{50, 51, 52})
	c.Forget(51)
	tells(t, c, []int{53, 59}, []int{50, 52})
	c.Forget(51)
	c.Forget(53)
	c.Forget(59)
	tells(t, c, nil, []int{50, 52})
	gets(t, c, 53, chunk("d")) // as it lies there
	refused(t, c, api.ErrSum, 59)
	gets(t, c, 51, chunk("b"))
	tells(t, c, nil, []int{52, 53, 51})
	flushes(t, c)
	if got := d.Dirty(); len(got) > 0 {
		t.Errorf("sectors %v were written", got)
	}
	c.Forget(52)
	c.Forget(53)
	c.Forget(51)
	tells(t, c, nil, nil)
}

func TestFlushWritesEachIntoItsSector(t *testing.T) {
	c, d := newCache(t, 128, 2)
	for _, n := range []int{127, 50, 90, 51} {
		puts(t, c, n, chunk("a"))
		puts(t, c, n, chunk(string(rune('A'+n-50))))
	}
	flushes(t, c)
	for _, n := range []int{127, 50, 90, 51} {
		has(t, d, n, chunk(string(rune('A'+n-50))))
	}
	if got := d.Dirty(); !slices.Equal(got, []int{50, 51, 90, 127}) {
		t.Errorf("sectors %v were written", got)
	}
	tells(t, c, nil, []int{90, 127})
}

// Where the power goes within, those of the lesser numbers were written, each once.
func TestFlushWritesByRisingNumbers(t *testing.T) {
	numbers := []int{59, 51, 57, 50, 54}
	rising := slices.Sorted(slices.Values(numbers))
	for done := range len(numbers) + 2 {
		c, d := newCache(t, 60, 9)
		for _, n := range numbers {
			puts(t, c, n, chunk("a"))
		}
		d.Cut(done)
		flushes(t, c)
		if got := d.Dirty(); !slices.Equal(got, rising[:min(done, len(rising))]) {
			t.Errorf("with %d writes: sectors %v", done, got)
		}
		tells(t, c, nil, rising)
		lay(t, d, 58, chunk("z"))
		if got := slices.Contains(d.Dirty(), 58); got != (done > len(numbers)) {
			t.Errorf("with %d writes: one more is done: %v", done, got)
		}
	}
}

func TestFlushDoesNotFlushTheDisk(t *testing.T) {
	c, d := some(t)
	puts(t, c, 50, chunk("x"))
	flushes(t, c)
	has(t, d, 50, chunk("x"))
	d.Power(nil)
	has(t, d, 50, chunk("a"))
	gets(t, c, 50, chunk("x")) // it is in the cache still
	c.Forget(50)
	gets(t, c, 50, chunk("a"))
}

func TestWhatIsCleanIsNotWrittenAgain(t *testing.T) {
	c, d := some(t)
	puts(t, c, 50, chunk("x"))
	flushes(t, c)
	d.Flush()
	flushes(t, c)
	gets(t, c, 50, chunk("x"))
	gets(t, c, 51, chunk("b"))
	flushes(t, c)
	if got := d.Dirty(); len(got) > 0 {
		t.Errorf("sectors %v were written", got)
	}
}

// Those that were clean were asked longer ago than any that Flush wrote.
func TestFlushAndTheOrder(t *testing.T) {
	c, _ := newCache(t, 60, 5)
	for _, n := range []int{50, 51, 58} {
		puts(t, c, n, chunk("a"))
	}
	flushes(t, c)
	gets(t, c, 50, chunk("a"))
	tells(t, c, nil, []int{51, 58, 50})
	puts(t, c, 57, chunk("b"))
	puts(t, c, 52, chunk("b"))
	gets(t, c, 51, chunk("a"))
	gets(t, c, 52, chunk("b"))
	flushes(t, c)
	tells(t, c, nil, []int{58, 50, 51, 52, 57})
	puts(t, c, 50, chunk("c"))
	puts(t, c, 53, chunk("c"))
	tells(t, c, []int{50, 53}, []int{58, 51, 52, 57})
	flushes(t, c)
	tells(t, c, nil, []int{51, 52, 57, 50, 53})
	flushes(t, c) // nothing is dirty: the order stays
	tells(t, c, nil, []int{51, 52, 57, 50, 53})
}

func TestFlushOfMoreThanTheRoom(t *testing.T) {
	for _, room := range []int{1, 2, 31, 1024} {
		c, d := newCache(t, 4096, room)
		var all []int
		for n := 4095; n >= 50; n-- {
			puts(t, c, n, chunk("a"))
			all = append(all, n)
		}
		slices.Reverse(all)
		tells(t, c, all, nil)
		flushes(t, c)
		tells(t, c, nil, all[len(all)-room:])
		if got := d.Dirty(); !slices.Equal(got, all) {
			t.Errorf("room %d: %d sectors were written", room, len(got))
		}
	}
}

// P13.4

func TestTheDiskHasItBehindFlush(t *testing.T) {
	c, d := newCache(t, 60, 2)
	for round, body := range []string{"a", "b", "", "a"} {
		was, _ := d.Read(55)
		puts(t, c, 55, chunk("other"))
		puts(t, c, 55, chunk(body))
		gets(t, c, 55, chunk(body))
		if now, _ := d.Read(55); !bytes.Equal(now, was) || len(d.Dirty()) > 0 {
			t.Errorf("round %d: the sector was written ahead of Flush", round)
		}
		flushes(t, c)
		has(t, d, 55, chunk(body))
		gets(t, c, 55, chunk(body))
		d.Flush()
	}
	hasNought(t, d, 50, 54, 56, 59)
}

// R4

func TestNilIsEmpty(t *testing.T) {
	c, d := newCache(t, 60, 2)
	puts(t, c, 50, api.Block{Kind: api.KindLeaf})
	puts(t, c, 51, api.Block{Kind: api.KindLeaf, Body: []byte{}})
	for range 2 {
		gets(t, c, 50, api.Block{Kind: api.KindLeaf})
		gets(t, c, 51, api.Block{Kind: api.KindLeaf})
		flushes(t, c)
	}
	has(t, d, 50, api.Block{Kind: api.KindLeaf})
	has(t, d, 51, api.Block{Kind: api.KindLeaf})
}

func TestWhatIsHandedInIsNeitherChangedNorKept(t *testing.T) {
	c, d := newCache(t, 60, 2)
	room := bytes.Repeat([]byte{77}, 300)
	puts(t, c, 50, api.Block{Kind: api.KindLeaf, Body: room[:3]})
	puts(t, c, 51, api.Block{Kind: api.KindLeaf, Body: room[:0]})
	if !bytes.Equal(room, bytes.Repeat([]byte{77}, 300)) {
		t.Error("Put changed what it was handed")
	}
	clear(room)
	gets(t, c, 50, api.Block{Kind: api.KindLeaf, Body: []byte{77, 77, 77}})
	if got, _ := c.Get(51); len(append(got.Body, 9)) != 1 || room[0] != 0 {
		t.Error("what is told has the spare room of what was handed in")
	}
	flushes(t, c)
	has(t, d, 50, api.Block{Kind: api.KindLeaf, Body: []byte{77, 77, 77}})
}

// whole is a slice up to its spare room's end.
func whole[T any](all []T) []T { return all[:cap(all)] }

func TestBlocksAreNewMemory(t *testing.T) {
	c, d := some(t)
	puts(t, c, 51, chunk("xyz"))
	for range 2 {
		for n, want := range map[int]api.Block{50: chunk("a"), 51: chunk("xyz")} {
			for range 3 { // as it is read, as it is kept, as it is kept still
				got, e := c.Get(n)
				if e != api.OK || !same(got, want) {
					t.Errorf("Get(%d) = %v, %v, want %v", n, got, e, want)
				}
				clear(whole(got.Body))
			}
		}
		flushes(t, c)
	}
	has(t, d, 51, chunk("xyz"))
}

func TestListsAreNewMemory(t *testing.T) {
	c, _ := some(t)
	for _, n := range []int{50, 51, 52, 53} { // one is forgotten, which leaves spare room
		gets(t, c, n, blocks()[n-50])
	}
	puts(t, c, 57, chunk("x"))
	puts(t, c, 58, chunk("x"))
	for range 2 {
		clear(whole(c.Dirty()))
		clear(whole(c.Clean()))
		tells(t, c, []int{57, 58}, []int{51, 52, 53})
	}
	clean := c.Clean()
	dirty := c.Dirty()
	gets(t, c, 51, chunk("b"))
	flushes(t, c)
	if !slices.Equal(clean, []int{51, 52, 53}) || !slices.Equal(dirty, []int{57, 58}) {
		t.Error("lists that were told before changed:", clean, dirty)
	}
}
