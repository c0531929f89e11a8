package sums_test

import (
	"bytes"
	"crypto/sha256"
	"encoding/binary"
	"encoding/hex"
	"hash/crc32"
	"math/big"
	"math/rand"
	"slices"
	"strings"
	"testing"

	"kist/sums"
)

func anyBytes(chance *rand.Rand, size int) []byte {
	data := make([]byte, size)
	chance.Read(data)
	return data
}

// counted is bytes that tell their own place.
func counted(size int) []byte {
	data := make([]byte, size)
	for i := range data {
		data[i] = byte(i + i>>8)
	}
	return data
}

// slowCrc is P5.1 told once more, its number as a row of bits, the lowest first.
func slowCrc(data []byte) int {
	var row [32]int
	for i := range row {
		row[i] = 1
	}
	for _, b := range data {
		for i := range 8 {
			row[i] ^= int(b >> i & 1)
		}
		for range 8 {
			lowest := row[0]
			copy(row[:], row[1:])
			row[31] = 0
			for i := range row {
				row[i] ^= lowest & (0x82F63B78 >> i & 1)
			}
		}
	}
	sum := 0
	for i, bit := range row {
		sum += (1 - bit) << i
	}
	return sum
}

// slowWords is the words k of P5.2 by the rule: the greatest whole number whose cube is at most a prime times 2^96, its lowest 32 bits.
func slowWords() []uint32 {
	var k []uint32
	for n := int64(2); len(k) < 64; n++ {
		if !big.NewInt(n).ProbablyPrime(20) {
			continue
		}
		most := new(big.Int).Lsh(big.NewInt(n), 96)
		root := new(big.Int)
		for bit := 40; bit >= 0; bit-- {
			more := new(big.Int).SetBit(root, bit, 1)
			if new(big.Int).Exp(more, big.NewInt(3), nil).Cmp(most) <= 0 {
				root = more
			}
		}
		k = append(k, uint32(root.Uint64()))
	}
	return k
}

func slowTurn(x uint32, n int) uint32 { return x>>n | x<<(32-n) }

// slowSha is P5.2 told once more, over the whole row of bytes with what comes behind.
func slowSha(data []byte, k []uint32) [32]byte {
	all := append(slices.Clone(data), 128)
	for (len(all)+8)%64 != 0 {
		all = append(all, 0)
	}
	all = binary.BigEndian.AppendUint64(all, uint64(len(data))*8)
	words := []uint32{0x6a09e667, 0xbb67ae85, 0x3c6ef372, 0xa54ff53a, 0x510e527f, 0x9b05688c, 0x1f83d9ab, 0x5be0cd19}
	for piece := range slices.Chunk(all, 64) {
		var w []uint32
		for i := range 64 {
			if i < 16 {
				w = append(w, binary.BigEndian.Uint32(piece[4*i:]))
				continue
			}
			x, y := w[i-15], w[i-2]
			w = append(w, w[i-16]+(slowTurn(x, 7)^slowTurn(x, 18)^x/8)+w[i-7]+(slowTurn(y, 17)^slowTurn(y, 19)^y/1024))
		}
		now := slices.Clone(words)
		for i := range 64 {
			a, b, c, e, f, g := now[0], now[1], now[2], now[4], now[5], now[6]
			t := now[7] + (slowTurn(e, 6) ^ slowTurn(e, 11) ^ slowTurn(e, 25)) + ((e & f) ^ (^e & g)) + k[i] + w[i]
			u := (slowTurn(a, 2) ^ slowTurn(a, 13) ^ slowTurn(a, 22)) + ((a & b) ^ (a & c) ^ (b & c))
			now = append([]uint32{t + u}, now[:7]...)
			now[4] += t
		}
		for i := range words {
			words[i] += now[i]
		}
	}
	var out [32]byte
	for i, x := range words {
		binary.BigEndian.PutUint32(out[4*i:], x)
	}
	return out
}

// P5.1

func TestCrcExamples(t *testing.T) {
	for _, l := range []struct {
		data string
		want int
	}{
		{"", 0},
		{"123456789", 0xe3069283},
		{"a", 0xc1d04330},
		{"\x00", 0x527d5351},
		{"\xff", 0xff000000},
		{"\xff\xff\xff\xff", 0xffffffff},
		{strings.Repeat("\x00", 32), 0x8a9136aa},
		{strings.Repeat("\xff", 32), 0x62a8ab43},
	} {
		if got := sums.Crc([]byte(l.data)); got != l.want {
			t.Errorf("Crc(%q) = %x, want %x", l.data, got, l.want)
		}
	}
}

func TestCrcIsTheDocuments(t *testing.T) {
	chance := rand.New(rand.NewSource(51))
	for size := range 300 {
		data := anyBytes(chance, size)
		if got, want := sums.Crc(data), slowCrc(data); got != want {
			t.Fatalf("Crc(%x) = %x, want %x", data, got, want)
		}
	}
	for b := range 256 {
		data := []byte{byte(b)}
		if got, want := sums.Crc(data), slowCrc(data); got != want {
			t.Fatalf("Crc(%x) = %x, want %x", data, got, want)
		}
	}
}

func TestCrcIsThatOfTheLibrary(t *testing.T) {
	chance := rand.New(rand.NewSource(52))
	table := crc32.MakeTable(crc32.Castagnoli)
	for range 200 {
		data := anyBytes(chance, chance.Intn(1<<chance.Intn(18)))
		if got, want := sums.Crc(data), int(crc32.Checksum(data, table)); got != want {
			t.Fatalf("Crc of %d bytes = %x, want %x", len(data), got, want)
		}
	}
}

// A number of 32 bits is never below 0, also with its highest bit.
func TestCrcStaysIn32Bits(t *testing.T) {
	chance := rand.New(rand.NewSource(53))
	high := 0
	for range 1000 {
		got := sums.Crc(anyBytes(chance, chance.Intn(40)))
		if got < 0 || got > 1<<32-1 {
			t.Fatalf("%d is no number of 32 bits", got)
		}
		high += got >> 31
	}
	if high == 0 {
		t.Error("the highest bit is never there")
	}
}

// P5.2

func TestShaExamples(t *testing.T) {
	for _, l := range []struct{ data, want string }{
		{"", "e3b0c44298fc1c149afbf4c8996fb92427ae41e4649b934ca495991b7852b855"},
		{"abc", "ba7816bf8f01cfea414140de5dae2223b00361a396177a9cb410ff61f20015ad"},
		{"abcdbcdecdefdefgefghfghighijhijkijkljklmklmnlmnomnopnopq", "248d6a61d20638b8e5c026930c3e6039a33ce45964ff2167f6ecedd419db06c1"},
		{strings.Repeat("a", 1000000), "cdc76e5c9914fb9281a1c7e284d73e67f1809a48a497200e046d39ccc7112cd0"},
	} {
		got := sums.Sha([]byte(l.data))
		if hex.EncodeToString(got[:]) != l.want {
			t.Errorf("Sha of %d bytes = %x, want %s", len(l.data), got, l.want)
		}
	}
}

// Behind 55 bytes the closing ones just go in, behind 56 they need another 64.
func TestShaIsTheDocuments(t *testing.T) {
	chance := rand.New(rand.NewSource(54))
	k := slowWords()
	for size := range 330 {
		for _, data := range [][]byte{anyBytes(chance, size), counted(size), make([]byte, size), bytes.Repeat([]byte{255}, size)} {
			if got, want := sums.Sha(data), slowSha(data, k); got != want {
				t.Fatalf("Sha(%x) = %x, want %x", data, got, want)
			}
		}
	}
}

func TestShaIsThatOfTheLibrary(t *testing.T) {
	chance := rand.New(rand.NewSource(55))
	for range 300 {
		data := anyBytes(chance, chance.Intn(1<<chance.Intn(18)))
		if got, want := sums.Sha(data), sha256.Sum256(data); got != want {
			t.Fatalf("Sha of %d bytes = %x, want %x", len(data), got, want)
		}
	}
}

// The number of bits has more bytes at each of these sizes; at the last one it goes beyond a word.
func TestShaCountsAllBits(t *testing.T) {
	for _, size := range []int{31, 32, 1<<13 - 1, 1 << 13, 1<<21 - 1, 1 << 21, 1<<29 + 3} {
		data := make([]byte, size)
		if got, want := sums.Sha(data), sha256.Sum256(data); got != want {
			t.Errorf("Sha of %d bytes 0 = %x, want %x", size, got, want)
		}
	}
}

// P5.3

// differ turns the bits of data whose place from 'from' on has a bit in pattern; places count each byte's lowest bit first.
func differ(data []byte, from int, pattern uint32) []byte {
	out := slices.Clone(data)
	for i := range 32 {
		if pattern>>i&1 == 1 {
			out[(from+i)/8] ^= 1 << ((from + i) % 8)
		}
	}
	return out
}

// differHighFirst is the same where places count each byte's highest bit first.
func differHighFirst(data []byte, from int, pattern uint32) []byte {
	out := slices.Clone(data)
	for i := range 32 {
		if pattern>>i&1 == 1 {
			out[(from+i)/8] ^= 128 >> ((from + i) % 8)
		}
	}
	return out
}

func TestCrcTellsWhatDiffersWithin32Bits(t *testing.T) {
	chance := rand.New(rand.NewSource(56))
	data := anyBytes(chance, 256)
	sum := sums.Crc(data)
	for from := range 8*len(data) - 31 {
		patterns := []uint32{1, 1 << 31, 1<<31 + 1, 0xFFFFFFFF, 0x82F63B78, 0x05EC76F1}
		for range 4 {
			patterns = append(patterns, 1+uint32(chance.Int63n(1<<32-1)))
		}
		for _, pattern := range patterns {
			if sums.Crc(differ(data, from, pattern)) == sum {
				t.Fatalf("bits %x from %d on are not told", pattern, from)
			}
		}
	}
}

// Where bits are counted from each byte's highest one, whole bytes are still side by side.
func TestCrcTellsFourBytes(t *testing.T) {
	chance := rand.New(rand.NewSource(57))
	data := anyBytes(chance, 64)
	sum := sums.Crc(data)
	for from := 0; from+32 <= 8*len(data); from += 8 {
		for range 200 {
			if sums.Crc(differHighFirst(data, from, 1+uint32(chance.Int63n(1<<32-1)))) == sum {
				t.Fatalf("the four bytes from %d on are not told", from/8)
			}
		}
	}
	for place := range 8 * len(data) {
		other := slices.Clone(data)
		other[place/8] ^= 1 << (place % 8)
		if sums.Crc(other) == sum {
			t.Fatalf("bit %d is not told", place)
		}
	}
}

// Four bytes alone have as many sums as there are of them: what 16 of their bits may be comes to no sum twice, whichever 16.
func TestCrcOfFourBytesIsNeverTwice(t *testing.T) {
	for _, low := range []int{0, 8, 16} {
		seen := map[int]int{}
		for i := range 1 << 16 {
			var data [4]byte
			binary.LittleEndian.PutUint32(data[:], uint32(i)<<low)
			sum := sums.Crc(data[:])
			if first, ok := seen[sum]; ok {
				t.Fatalf("%x and %x have the sum %x", first<<low, i<<low, sum)
			}
			seen[sum] = i
		}
	}
}

// R4

func TestNilIsEmpty(t *testing.T) {
	if sums.Crc(nil) != sums.Crc([]byte{}) {
		t.Error("the check sum of nil is not that of no bytes")
	}
	if sums.Sha(nil) != sums.Sha([]byte{}) {
		t.Error("the digest of nil is not that of no bytes")
	}
}

// All sizes of the last piece, for what is laid behind it must not come into the spare room.
func TestWhatIsHandedInStays(t *testing.T) {
	for size := range 200 {
		all := counted(400)
		data := all[:size]
		sums.Crc(data)
		sums.Sha(data)
		if !bytes.Equal(all, counted(400)) {
			t.Fatalf("%d bytes, or their spare room, were changed", size)
		}
	}
}

func TestSpareRoomIsNotRead(t *testing.T) {
	for size := range 200 {
		a, b := counted(400), append(counted(size), make([]byte, 400)...)
		if sums.Crc(a[:size]) != sums.Crc(b[:size]) || sums.Sha(a[:size]) != sums.Sha(b[:size]) {
			t.Fatalf("the sums of %d bytes hang on what stands behind them", size)
		}
	}
}

func TestNothingIsKept(t *testing.T) {
	data := counted(100)
	sum, digest := sums.Crc(data), sums.Sha(data)
	data[50]++
	if sums.Crc(data) == sum || sums.Sha(data) == digest {
		t.Error("other bytes have the same sums")
	}
	data[50]--
	for range 3 {
		if sums.Crc(data) != sum || sums.Sha(data) != digest {
			t.Error("asked again, the same bytes have other sums")
		}
	}
}
