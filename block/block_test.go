package block_test

import (
	"bytes"
	"math"
	"math/rand"
	"testing"

	"kist/api"
	"kist/block"
	"kist/sums"
)

func anyBlock(chance *rand.Rand) (int, api.Block) {
	body := make([]byte, chance.Intn(241))
	chance.Read(body)
	return chance.Intn(65536), api.Block{Kind: 1 + chance.Intn(4), Body: body}
}

// slow is the chapter told once more: one byte of the sector behind the other.
func slow(number int, b api.Block) []byte {
	out := []byte{byte(b.Kind), byte(len(b.Body)), byte(number % 256), byte(number / 256), 0, 0, 0, 0}
	out = append(out, b.Body...)
	for len(out) < 252 {
		out = append(out, 0)
	}
	return sealed(out)
}

// sealed is 252 bytes and the sum that they have.
func sealed(data []byte) []byte {
	sum := sums.Crc(data[:252])
	return append(bytes.Clone(data[:252]), byte(sum), byte(sum>>8), byte(sum>>16), byte(sum>>24))
}

func put(t *testing.T, number int, b api.Block) []byte {
	t.Helper()
	out, e := block.Put(number, b)
	if e != api.OK {
		t.Fatalf("Put(%d, %v): %v", number, b, e)
	}
	return out
}

func same(a, b api.Block) bool { return a.Kind == b.Kind && bytes.Equal(a.Body, b.Body) }

func gets(t *testing.T, number int, sector []byte, want api.Block) {
	t.Helper()
	if got, e := block.Get(number, sector); e != api.OK || !same(got, want) {
		t.Errorf("Get(%d) = %v, %v, want %v", number, got, e, want)
	}
}

func refused(t *testing.T, what string, number int, sector []byte, want api.Errno) {
	t.Helper()
	if got, e := block.Get(number, sector); e != want || got.Kind != 0 || got.Body != nil {
		t.Errorf("%s: Get = %v, %v, want nothing and %v", what, got, e, want)
	}
}

// P9.1

func TestPutExample(t *testing.T) {
	out := put(t, 258, api.Block{Kind: api.KindChunk, Body: []byte("ab")})
	if want := []byte{3, 2, 2, 1, 0, 0, 0, 0, 97, 98}; !bytes.Equal(out[:10], want) {
		t.Errorf("bytes 0 to 9 are %v, want %v", out[:10], want)
	}
	if !bytes.Equal(out[10:252], make([]byte, 242)) {
		t.Errorf("bytes 10 to 251 are %v, want 0", out[10:252])
	}
}

func TestPutAsTheChapterTells(t *testing.T) {
	chance := rand.New(rand.NewSource(9))
	for range 500 {
		number, b := anyBlock(chance)
		if out := put(t, number, b); !bytes.Equal(out, slow(number, b)) {
			t.Fatalf("Put(%d, %v) = %v", number, b, out)
		}
	}
}

func TestPutEdges(t *testing.T) {
	for _, number := range []int{0, 1, 255, 256, 65535} {
		for kind := api.KindLeaf; kind <= api.KindMore; kind++ {
			for _, length := range []int{0, 1, 239, 240} {
				b := api.Block{Kind: kind, Body: bytes.Repeat([]byte{255}, length)}
				if out := put(t, number, b); !bytes.Equal(out, slow(number, b)) {
					t.Errorf("Put(%d, kind %d, %d bytes) = %v", number, kind, length, out)
				}
			}
		}
	}
}

func TestPutRefuses(t *testing.T) {
	refuses := func(number int, b api.Block) {
		t.Helper()
		if out, e := block.Put(number, b); e != api.ErrArg || out != nil {
			t.Errorf("Put(%d, kind %d, %d bytes) = %v, %v", number, b.Kind, len(b.Body), out, e)
		}
	}
	for _, number := range []int{-1, 65536, 65537, 1 << 32, math.MinInt, math.MaxInt} {
		refuses(number, api.Block{Kind: api.KindLeaf})
	}
	for _, kind := range []int{0, 5, -1, 256, 257, 1<<32 + 1, math.MinInt, math.MaxInt} {
		refuses(1, api.Block{Kind: kind})
	}
	for _, length := range []int{241, 244, 245, 255, 256, 257, 496, 1 << 16} {
		refuses(1, api.Block{Kind: api.KindLeaf, Body: make([]byte, length)})
	}
}

// P9.2

func TestGetExamples(t *testing.T) {
	out := put(t, 258, api.Block{Kind: api.KindChunk, Body: []byte("ab")})
	gets(t, 258, out, api.Block{Kind: api.KindChunk, Body: []byte("ab")})
	refused(t, "bytes 0", 0, make([]byte, 256), api.ErrSum)
	refused(t, "another number", 259, out, api.ErrImage)
}

func TestGetOfAnotherLength(t *testing.T) {
	out := put(t, 258, api.Block{Kind: api.KindChunk, Body: []byte("ab")})
	for _, length := range []int{0, 1, 4, 8, 251, 252, 255, 257, 512} {
		refused(t, "another length", 258, append(bytes.Clone(out), make([]byte, 256)...)[:length], api.ErrArg)
	}
	refused(t, "nil", 258, nil, api.ErrArg)
}

func TestGetOfAnotherNumber(t *testing.T) {
	out := put(t, 258, api.Block{Kind: api.KindChunk, Body: []byte("ab")})
	for _, number := range []int{0, 2, 257, 513, -258, 258 + 1<<16, 258 - 1<<16, 258 + 1<<32, math.MinInt, math.MaxInt} {
		refused(t, "another number", number, out, api.ErrImage)
	}
	low := put(t, 0, api.Block{Kind: api.KindLeaf})
	for _, number := range []int{1, 256, 65536, -65536, math.MinInt} {
		refused(t, "another number", number, low, api.ErrImage)
	}
}

func TestGetOfNoSuchBlocksBytes(t *testing.T) {
	out := put(t, 258, api.Block{Kind: api.KindChunk, Body: []byte("ab")})
	with := func(at int, b byte) []byte {
		data := bytes.Clone(out)
		data[at] = b
		return sealed(data)
	}
	for _, kind := range []byte{0, 5, 128, 255} {
		refused(t, "kind", 258, with(0, kind), api.ErrImage)
	}
	for _, length := range []byte{0, 1, 241, 243, 244, 245, 248, 255} {
		refused(t, "length", 258, with(1, length), api.ErrImage)
	}
	for at := 2; at < 8; at++ {
		refused(t, "head", 258, with(at, 7), api.ErrImage)
	}
	for at := 10; at < 252; at++ {
		refused(t, "behind the body", 258, with(at, 1), api.ErrImage)
	}
	gets(t, 258, with(9, 'c'), api.Block{Kind: api.KindChunk, Body: []byte("ac")})
	gets(t, 258, with(1, 4), api.Block{Kind: api.KindChunk, Body: []byte("ab\x00\x00")})
	gets(t, 258, with(0, 4), api.Block{Kind: api.KindMore, Body: []byte("ab")})
}

// Lengths of 241 to 244 have all of their bytes ahead of the sum, and still may not be.
func TestGetOfALengthThatHasRoomAndMayNotBe(t *testing.T) {
	for length := 240; length < 256; length++ {
		data := bytes.Repeat([]byte{9}, 252)
		copy(data, []byte{1, byte(length), 0, 0, 0, 0, 0, 0})
		clear(data[min(8+length, 252):])
		if length == 240 {
			gets(t, 0, sealed(data), api.Block{Kind: 1, Body: data[8:248]})
			continue
		}
		refused(t, "length", 0, sealed(data), api.ErrImage)
	}
}

// R2: the length of the sector is told ahead of its sum, and the sum ahead of what stands there.
func TestGetTellsTheFirst(t *testing.T) {
	refused(t, "sum and kind and number", 70000, make([]byte, 256), api.ErrSum)
	refused(t, "length and number", -1, make([]byte, 255), api.ErrArg)
	bad := sealed(make([]byte, 252))
	refused(t, "kind 0, with its sum", 0, bad, api.ErrImage)
	bad[255] ^= 128
	refused(t, "kind 0, and no sum", 0, bad, api.ErrSum)
}

// P9.3

func TestGetOfPutAndPutOfGet(t *testing.T) {
	chance := rand.New(rand.NewSource(93))
	for range 500 {
		number, b := anyBlock(chance)
		sector := slow(number, b)
		gets(t, number, put(t, number, b), b)
		got, e := block.Get(number, sector)
		if e != api.OK {
			t.Fatalf("Get(%d): %v", number, e)
		}
		if again := put(t, number, got); !bytes.Equal(again, sector) {
			t.Fatalf("Put of Get(%d) = %v, want %v", number, again, sector)
		}
	}
}

// P9.4

// turned is the sector with the bits of the pattern turned, from a bit on; false, if there is none of them in it.
func turned(sector []byte, from int, pattern uint32) ([]byte, bool) {
	out := bytes.Clone(sector)
	some := false
	for i := range 32 {
		if bit := from + i; pattern>>i&1 == 1 && bit < 2048 {
			out[bit/8] ^= 1 << (bit % 8)
			some = true
		}
	}
	return out, some
}

func TestUpTo32BitsSideBySide(t *testing.T) {
	chance := rand.New(rand.NewSource(94))
	for range 4 {
		number, b := anyBlock(chance)
		sector := put(t, number, b)
		for from := range 2048 {
			for _, pattern := range []uint32{1, 3, 1<<31 | 1, math.MaxUint32, 1 | chance.Uint32(), 1 | chance.Uint32()} {
				if bad, some := turned(sector, from, pattern); some {
					refused(t, "bits turned", number, bad, api.ErrSum)
				}
			}
		}
	}
}

// R4

func TestNilIsEmpty(t *testing.T) {
	a, b := put(t, 7, api.Block{Kind: 2}), put(t, 7, api.Block{Kind: 2, Body: []byte{}})
	if !bytes.Equal(a, b) {
		t.Errorf("nil: %v, empty: %v", a, b)
	}
	gets(t, 7, a, api.Block{Kind: 2})
}

func TestWhatIsHandedInStays(t *testing.T) {
	room := bytes.Repeat([]byte{77}, 600)
	body := room[:100]
	sector := put(t, 7, api.Block{Kind: 2, Body: body})
	if !bytes.Equal(room, bytes.Repeat([]byte{77}, 600)) {
		t.Error("Put changed what it was handed")
	}
	if !bytes.Equal(sector, slow(7, api.Block{Kind: 2, Body: bytes.Clone(body)})) {
		t.Error("Put read the spare room")
	}
	copy(room, sector)
	was := bytes.Clone(room)
	got, e := block.Get(7, room[:256])
	if e != api.OK || !bytes.Equal(room, was) {
		t.Errorf("Get changed what it was handed, or told %v", e)
	}
	clear(room)
	if !bytes.Equal(got.Body, bytes.Repeat([]byte{77}, 100)) {
		t.Error("the block shares memory with the sector")
	}
}

func TestAnswersAreNewMemory(t *testing.T) {
	body := []byte("abc")
	a := put(t, 7, api.Block{Kind: 2, Body: body})
	b := put(t, 7, api.Block{Kind: 2, Body: body})
	clear(body)
	clear(a)
	gets(t, 7, b, api.Block{Kind: 2, Body: []byte("abc")})
	first, _ := block.Get(7, b)
	clear(first.Body)
	gets(t, 7, b, api.Block{Kind: 2, Body: []byte("abc")})
}
