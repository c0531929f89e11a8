package cut_test

import (
	"bytes"
	"crypto/sha256"
	"math"
	"math/big"
	"math/rand"
	"slices"
	"testing"

	"kist/cut"
)

func anyBytes(chance *rand.Rand, size int) []byte {
	data := make([]byte, size)
	chance.Read(data)
	return data
}

// slowGear is P7.1 told once more, by the library's digest.
func slowGear(b byte) int {
	digest := sha256.Sum256([]byte{b})
	sum := 0
	for i := 3; i >= 0; i-- {
		sum = 256*sum + int(digest[i])
	}
	return sum
}

// slowMark is the mark of all of data, worked out at once: of each byte the gear times a power of 2, modulo 2^32.
func slowMark(data []byte) int {
	sum := new(big.Int)
	for i, b := range data {
		sum.Add(sum, new(big.Int).Lsh(big.NewInt(int64(slowGear(b))), uint(len(data)-1-i)))
	}
	return int(sum.Mod(sum, big.NewInt(1<<32)).Int64())
}

// slowCut is P7.2 told once more.
func slowCut(data []byte) []int {
	var lengths []int
	from, mark := 0, 0
	for i, b := range data {
		mark = (2*mark + slowGear(b)) % (1 << 32)
		size := i + 1 - from
		if size == 512 || size >= 64 && mark%128 == 0 || i == len(data)-1 {
			lengths = append(lengths, size)
			from, mark = i+1, 0
		}
	}
	return lengths
}

func slowEnds(data []byte, at int) bool {
	return at >= 7 && at <= len(data) && slowMark(data[at-7:at])%128 == 0
}

// ender is seven bytes behind which a chunk might end, wherever they stand, and none within them or where they stand among bytes 0.
func ender(t *testing.T) []byte {
	chance := rand.New(rand.NewSource(71))
	for range 1 << 20 {
		end := anyBytes(chance, 7)
		among := slices.Concat(make([]byte, 10), end, make([]byte, 10))
		only := slowEnds(among, 17)
		for at := range among {
			only = only && (at == 17 || !slowEnds(among, at))
		}
		if only {
			return end
		}
	}
	t.Fatal("there are no such seven bytes")
	return nil
}

// withEnds is bytes 0 among which a chunk might end just at these places.
func withEnds(end []byte, size int, places ...int) []byte {
	data := make([]byte, size)
	for _, at := range places {
		copy(data[at-7:at], end)
	}
	return data
}

// samples is data of many kinds and sizes.
func samples() [][]byte {
	chance := rand.New(rand.NewSource(72))
	var out [][]byte
	for _, size := range []int{0, 1, 6, 7, 8, 62, 63, 64, 65, 127, 128, 129, 511, 512, 513, 575, 576, 577, 1023, 1024, 1025, 5000} {
		few := make([]byte, size)
		for i := range few {
			few[i] = byte("ab"[chance.Intn(2)])
		}
		counted := make([]byte, size)
		for i := range counted {
			counted[i] = byte(i)
		}
		out = append(out, anyBytes(chance, size), few, counted, make([]byte, size), bytes.Repeat([]byte{255}, size))
	}
	for range 100 {
		out = append(out, anyBytes(chance, chance.Intn(3000)))
	}
	for b := range 256 {
		out = append(out, bytes.Repeat([]byte{byte(b)}, 1200))
	}
	return out
}

// P7.1

func TestGearExamples(t *testing.T) {
	if got := cut.Gear(0); got != 0x9c0b346e {
		t.Errorf("Gear(0) = %x", got)
	}
	if got := cut.Gear(97); got != 0x128197ca {
		t.Errorf("Gear(97) = %x", got)
	}
}

// A gear is never below 0, also with its highest bit, as that of 0.
func TestGearIsTheDocuments(t *testing.T) {
	for b := range 256 {
		if got, want := cut.Gear(byte(b)), slowGear(byte(b)); got != want {
			t.Errorf("Gear(%d) = %x, want %x", b, got, want)
		}
	}
}

// P7.2

func TestCutExamples(t *testing.T) {
	for _, l := range []struct {
		data []byte
		want []int
	}{
		{nil, nil},
		{make([]byte, 10), []int{10}},
		{make([]byte, 1), []int{1}},
		{make([]byte, 511), []int{511}},
		{make([]byte, 512), []int{512}},
		{make([]byte, 513), []int{512, 1}},
		{make([]byte, 1024), []int{512, 512}},
		{make([]byte, 1200), []int{512, 512, 176}},
	} {
		if got := cut.Cut(l.data); !slices.Equal(got, l.want) {
			t.Errorf("Cut of %d bytes 0 = %v, want %v", len(l.data), got, l.want)
		}
	}
}

func TestCutIsTheDocuments(t *testing.T) {
	for _, data := range samples() {
		if got, want := cut.Cut(data), slowCut(data); !slices.Equal(got, want) {
			t.Fatalf("Cut(%x) = %v, want %v", data, got, want)
		}
	}
}

// The edges of MinChunk, MaxChunk and the end of the data, each with a place where the mark is a multiple of 128 beside it or on it.
func TestCutAtItsEdges(t *testing.T) {
	end := ender(t)
	for _, l := range []struct {
		size   int
		places []int
		want   []int
	}{
		{63, []int{63}, []int{63}},
		{64, []int{63}, []int{64}},
		{65, []int{63}, []int{65}},
		{64, []int{64}, []int{64}},
		{65, []int{64}, []int{64, 1}},
		{66, []int{65}, []int{65, 1}},
		{600, []int{7}, []int{512, 88}},
		{600, []int{63}, []int{512, 88}},
		{600, []int{64}, []int{64, 512, 24}},
		{600, []int{65}, []int{65, 512, 23}},
		{600, []int{63, 100}, []int{100, 500}},
		{600, []int{511}, []int{511, 89}},
		{600, []int{512}, []int{512, 88}},
		{600, []int{513}, []int{512, 88}},
		{600, []int{100, 163}, []int{100, 500}},
		{600, []int{100, 164}, []int{100, 64, 436}},
		{600, []int{512, 575}, []int{512, 88}},
		{600, []int{512, 576}, []int{512, 64, 24}},
		{600, []int{600}, []int{512, 88}},
		{300, []int{300}, []int{300}},
		{300, []int{200, 300}, []int{200, 100}},
	} {
		if got := cut.Cut(withEnds(end, l.size, l.places...)); !slices.Equal(got, l.want) {
			t.Errorf("%d bytes with ends at %v are cut to %v, want %v", l.size, l.places, got, l.want)
		}
	}
}

// P7.3

func TestEndsIsTheDocuments(t *testing.T) {
	chance := rand.New(rand.NewSource(73))
	many := 0
	for range 20 {
		data := anyBytes(chance, 400)
		for at := -10; at <= len(data)+10; at++ {
			want := slowEnds(data, at)
			if got := cut.Ends(data, at); got != want {
				t.Fatalf("Ends(%x, %d) = %v", data, at, got)
			}
			if want {
				many++
			}
		}
	}
	if many == 0 {
		t.Error("a chunk might end nowhere: nothing was tried")
	}
}

func TestEndsOnlyAtPlacesThatThereAre(t *testing.T) {
	end := ender(t)
	if !cut.Ends(end, 7) {
		t.Error("the 7 bytes at the very beginning do not tell")
	}
	for at := range 7 {
		if cut.Ends(end, at) {
			t.Errorf("a chunk might end behind %d bytes", at)
		}
	}
	wide := slices.Concat(make([]byte, 20), end, make([]byte, 20))
	if cut.Ends(wide[:26], 27) {
		t.Error("a chunk might end behind what is handed in")
	}
	if !cut.Ends(wide[:27], 27) || !cut.Ends(wide, 27) {
		t.Error("a chunk might not end where the seven bytes do")
	}
	for _, at := range []int{math.MinInt, -1, 48, math.MaxInt} {
		if cut.Ends(wide, at) || cut.Ends(nil, at) {
			t.Errorf("a chunk might end at %d", at)
		}
	}
	if cut.Ends(nil, 0) || cut.Ends(nil, 7) {
		t.Error("a chunk might end where nothing stands")
	}
}

// Fewer than 7 bytes do not tell, though their mark is a multiple of 128.
func TestEndsNeedsSevenBytes(t *testing.T) {
	chance := rand.New(rand.NewSource(74))
	tried := 0
	for range 1 << 14 {
		data := anyBytes(chance, 1+chance.Intn(6))
		if slowMark(data)%128 != 0 {
			continue
		}
		tried++
		if cut.Ends(data, len(data)) {
			t.Fatalf("Ends(%x, %d)", data, len(data))
		}
	}
	if tried == 0 {
		t.Error("nothing was tried")
	}
}

func TestEndsAsksTheSevenBytesAlone(t *testing.T) {
	chance := rand.New(rand.NewSource(75))
	end := ender(t)
	for range 200 {
		ahead, behind := anyBytes(chance, chance.Intn(100)), anyBytes(chance, chance.Intn(100))
		if !cut.Ends(slices.Concat(ahead, end, behind), len(ahead)+7) {
			t.Fatalf("between %x and %x a chunk might not end behind %x", ahead, behind, end)
		}
	}
	for i := range end {
		other := slices.Clone(end)
		for b := range 256 {
			other[i] = byte(b)
			if got, want := cut.Ends(other, 7), slowEnds(other, 7); got != want {
				t.Errorf("Ends(%x, 7) = %v", other, got)
			}
		}
	}
}

// P7.4

func TestChunksAreWhole(t *testing.T) {
	for _, data := range samples() {
		lengths, from := cut.Cut(data), 0
		for i, n := range lengths {
			last := i == len(lengths)-1
			if n < 1 || n > 512 || !last && n < 64 {
				t.Fatalf("chunk %d of %v has %d bytes", i, lengths, n)
			}
			if !last && n < 512 && !cut.Ends(data, from+n) {
				t.Fatalf("chunk %d of %v ends where none might", i, lengths)
			}
			for size := 64; size < n; size++ {
				if cut.Ends(data, from+size) {
					t.Fatalf("chunk %d of %v might end behind %d bytes", i, lengths, size)
				}
			}
			from += n
		}
		if from != len(data) {
			t.Fatalf("%v are %d bytes, want %d", lengths, from, len(data))
		}
	}
}

// P7.5

// begins is the places where chunks begin, and the end.
func begins(lengths []int) []int {
	places, at := []int{0}, 0
	for _, n := range lengths {
		at += n
		places = append(places, at)
	}
	return places
}

// sameBehind holds the chunks of two texts against each other that end alike, in the last 'alike' bytes; it tells whether they have a beginning in common there.
func sameBehind(t *testing.T, a, b []byte, alike int) bool {
	t.Helper()
	move := len(b) - len(a)
	one, other := begins(cut.Cut(a)), begins(cut.Cut(b))
	for i, at := range one {
		if at < len(a)-alike || at == len(a) {
			continue
		}
		j := slices.Index(other, at+move)
		if j < 0 {
			continue
		}
		if len(one)-i != len(other)-j {
			t.Fatalf("behind %d come %v and %v", at, one[i:], other[j:])
		}
		for k, place := range one[i:] {
			if other[j+k] != place+move {
				t.Fatalf("behind %d come %v and %v", at, one[i:], other[j:])
			}
		}
		return true
	}
	return false
}

func TestTextsThatGoOnAlike(t *testing.T) {
	chance := rand.New(rand.NewSource(76))
	met := 0
	for range 300 {
		rest := anyBytes(chance, 1+chance.Intn(4000))
		a := append(anyBytes(chance, chance.Intn(1200)), rest...)
		b := append(anyBytes(chance, chance.Intn(1200)), rest...)
		if sameBehind(t, a, b, len(rest)) {
			met++
		}
	}
	if met < 100 {
		t.Errorf("only %d of 300 met", met)
	}
}

// What a chunk begins with hangs on nothing ahead of it: what is behind a cut is cut as if it stood alone.
func TestChunksBehindACutStandAlone(t *testing.T) {
	for _, data := range samples() {
		lengths, from := cut.Cut(data), 0
		for i, n := range lengths {
			if got := cut.Cut(data[from:]); !slices.Equal(got, lengths[i:]) {
				t.Fatalf("behind %d bytes: %v, want %v", from, got, lengths[i:])
			}
			from += n
		}
	}
}

// R4

func TestNilIsEmpty(t *testing.T) {
	if len(cut.Cut(nil)) != 0 || len(cut.Cut([]byte{})) != 0 {
		t.Error("no bytes have chunks")
	}
	for at := -1; at < 10; at++ {
		if cut.Ends(nil, at) || cut.Ends([]byte{}, at) {
			t.Errorf("no bytes might end at %d", at)
		}
	}
}

func TestWhatIsHandedInStays(t *testing.T) {
	chance := rand.New(rand.NewSource(77))
	all := anyBytes(chance, 3000)
	before := slices.Clone(all)
	for _, size := range []int{0, 7, 64, 512, 1000, 2999} {
		cut.Cut(all[:size])
		cut.Ends(all[:size], size)
		if !bytes.Equal(all, before) {
			t.Fatalf("%d bytes, or their spare room, were changed", size)
		}
	}
}

func TestSpareRoomIsNotRead(t *testing.T) {
	chance := rand.New(rand.NewSource(78))
	for size := 0; size < 1200; size += 13 {
		wide := anyBytes(chance, 2000)
		tight := slices.Clip(slices.Clone(wide[:size]))
		if got, want := cut.Cut(wide[:size]), cut.Cut(tight); !slices.Equal(got, want) {
			t.Fatalf("with spare room %v, without %v", got, want)
		}
		for at := range 20 {
			if cut.Ends(wide[:size], size+at) != cut.Ends(tight, size+at) {
				t.Fatalf("what might end at %d hangs on what stands behind %d bytes", size+at, size)
			}
		}
	}
}

func TestAnswersAreNewMemory(t *testing.T) {
	chance := rand.New(rand.NewSource(79))
	data := anyBytes(chance, 5000)
	first, second := cut.Cut(data), cut.Cut(data)
	want := slices.Clone(second)
	for i := range first[:cap(first)] {
		first[:cap(first)][i] = -1
	}
	if !slices.Equal(second, want) || !slices.Equal(cut.Cut(data), want) {
		t.Error("two answers share their memory")
	}
}

func TestNothingIsKept(t *testing.T) {
	chance := rand.New(rand.NewSource(80))
	data := anyBytes(chance, 5000)
	first := cut.Cut(data)
	cut.Cut(make([]byte, 5000))
	clear(data[:2500])
	if got, want := cut.Cut(data), slowCut(data); !slices.Equal(got, want) {
		t.Errorf("other bytes: %v, want %v", got, want)
	}
	if slices.Equal(cut.Cut(data), first) {
		t.Error("other bytes are cut as the first ones were")
	}
}
