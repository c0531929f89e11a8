package pack_test

import (
	"bytes"
	"math/rand"
	"slices"
	"strings"
	"testing"

	"kist/api"
	"kist/pack"
)

func mustPack(t *testing.T, data []byte) []byte {
	t.Helper()
	b, e := pack.Pack(data)
	if e != api.OK {
		t.Fatalf("Pack of %d bytes is %v", len(data), e)
	}
	return b
}

func wantPack[T string | []byte](t *testing.T, data T, want ...[]byte) {
	t.Helper()
	if b := mustPack(t, []byte(data)); !bytes.Equal(b, join(want...)) {
		t.Errorf("Pack(%q) is %v, not %v", data, b, join(want...))
	}
}

// P6.1

func TestPackRaw(t *testing.T) {
	wantPack(t, "", []byte{0, 0, 0, 0, 0, 0})
	wantPack(t, "x", []byte{0, 1, 'x'}, sum("x")) // a run would be as long
	wantPack(t, "xy", []byte{0, 2, 'x', 'y'}, sum("xy"))
	wantPack(t, "123456789", []byte{0, 9}, []byte("123456789"), []byte{0x83, 0x92, 0x06, 0xe3})
	many := anyBytes(rand.New(rand.NewSource(60)), 300)
	wantPack(t, many, []byte{0, 172, 2}, many, sum(many))
}

func TestPackRun(t *testing.T) {
	wantPack(t, "xx", []byte{1, 2, 'x'}, sum("xx"))
	wantPack(t, "xxxxxxx", []byte{1, 7, 120}, sum("xxxxxxx"))
	for _, size := range []int{127, 128, 16383, 16384, 1 << 16} {
		zeros := make([]byte, size)
		wantPack(t, zeros, head(1, size), []byte{0}, sum(zeros))
	}
	wantPack(t, "xxxxy", []byte{0, 5}, []byte("xxxxy"), sum("xxxxy"))
	wantPack(t, "yxxxx", []byte{0, 5}, []byte("yxxxx"), sum("yxxxx"))
}

// One step, {4, 44, 4}: the codes are 3, 6 and 2, and the rests, the lowest first, 00, 00010 and 1.
func TestPackPacked(t *testing.T) {
	text := strings.Repeat("abcd", 12)
	wantPack(t, text,
		[]byte{2, 48},
		[]byte{4, 0, 'a', 'b', 'c', 'd'},
		[]byte{1},
		[]byte{6, 4, 0, 0, 0, 64, 1, 64},
		[]byte{6, 7, 0, 0, 0, 0, 0, 0, 64, 1, 64},
		[]byte{6, 3, 0, 0, 64, 1, 64},
		[]byte{1, 160},
		sum(text))
}

// The literals are all, and two codes of a bit each are the literals themselves as bits.
func TestPackCodesOfLiterals(t *testing.T) {
	data := []byte{0, 0, 0, 0, 1, 0, 0, 1, 1, 0, 1, 0, 1, 1, 1, 1, 0, 0, 0}
	wantPack(t, data, []byte{2, 19, 19, 1, 1, 17, 3, 144, 245, 0, 0}, sum(data))
}

// Numbers with the codes 0 and 1 have no rests, and where all are such there is no byte of rests at all.
func TestPackWithoutRests(t *testing.T) {
	chance := rand.New(rand.NewSource(61))
	var data []byte
	for i := range 60 { // a literal, and a step of four or five bytes from one back
		data = append(data, bytes.Repeat([]byte{byte(i)}, 5+chance.Intn(2))...)
	}
	b := mustPack(t, data)
	if b[0] != 2 || b[len(b)-5] != 0 {
		t.Errorf("the mode is %d, and the rests have %d bytes", b[0], b[len(b)-5])
	}
	wantPack(t, data, slowPack(data))
}

func TestPackTakesTheLeastModeOfSeveral(t *testing.T) {
	seen := 0
	for size := range 60 {
		data := bytes.Repeat([]byte("abcd"), 15)[:size]
		forms, _ := slowForms(data)
		if size > 1 && len(forms[0]) == len(forms[2]) {
			seen++
			wantPack(t, data, forms[0])
		}
		if size > 0 && len(forms[0]) == len(forms[2])+1 {
			seen++
			wantPack(t, data, forms[2])
		}
	}
	if seen < 2 {
		t.Error("no two forms were as long, or one byte apart")
	}
}

func TestPackTakesByteZeroOfLiteralsAsLong(t *testing.T) {
	ties := 0
	for kinds := 1; kinds < 12; kinds++ {
		all := fourApart(kinds)
		for many := range min(len(all), 60) {
			for _, first := range []byte{0, 20, 200} {
				var data []byte
				for _, b := range all[:many] {
					data = append(data, first+b)
				}
				data = bytes.Repeat(data, 30)
				if forms, tied := slowForms(data); tied && len(forms[2]) < len(forms[0]) {
					ties++
				}
				wantPack(t, data, slowPack(data))
			}
		}
	}
	if ties == 0 {
		t.Error("the literals were never as long with either byte")
	}
}

func TestPackIsTheDocuments(t *testing.T) {
	chance := rand.New(rand.NewSource(62))
	var modes [3]int
	for range 3000 {
		data := anyData(chance, 1<<chance.Intn(12))
		b := mustPack(t, data)
		if want := slowPack(data); !bytes.Equal(b, want) {
			t.Fatalf("Pack(%v) is %v, not %v", data, b, want)
		}
		modes[b[0]]++
	}
	for mode, many := range modes {
		if many < 20 {
			t.Errorf("mode %d came %d times", mode, many)
		}
	}
}

// greatData are as many bytes as may be, of several kinds.
func greatData() [][]byte {
	chance := rand.New(rand.NewSource(63))
	apart := anyBytes(chance, 1<<16)
	far := slices.Concat([]byte("wxyz"), anyBytes(chance, 1<<16-8), []byte("wxyz"))
	again := slices.Concat(apart[:40000], apart[:1<<16-40000]) // from farther back than half of the window
	text := bytes.Repeat([]byte("the quick brown fox jumps over the lazy dog; "), 1<<11)[:1<<16]
	thin := make([]byte, 1<<16) // its steps have 16 bits of Lits, or of Dist
	copy(thin, apart[:40000])
	return [][]byte{apart, far, again, text, thin, make([]byte, 1<<16)}
}

func TestPackOfAsManyAsMayBe(t *testing.T) {
	for i, data := range greatData() {
		b := mustPack(t, data)
		if !bytes.Equal(b, slowPack(data)) {
			t.Errorf("%d: Pack is not the document's", i)
		}
		if out, e := pack.Unpack(b, 1<<16); e != api.OK || !bytes.Equal(out, data) {
			t.Errorf("%d: Unpack is %d bytes, %v", i, len(out), e)
		}
	}
}

func TestPackRefusesMore(t *testing.T) {
	for _, size := range []int{1<<16 + 1, 1<<16 + 2, 1 << 17, 1 << 20} {
		if b, e := pack.Pack(make([]byte, size)); e != api.ErrArg || len(b) != 0 {
			t.Errorf("Pack of %d bytes is %d bytes, %v", size, len(b), e)
		}
	}
}

// P6.3

func TestUnpackOfPackAreTheBytes(t *testing.T) {
	chance := rand.New(rand.NewSource(64))
	for range 3000 {
		data := anyData(chance, 1<<chance.Intn(13))
		b := mustPack(t, data)
		for _, most := range []int{len(data), len(data) + 1, 1 << 16} {
			if out, e := pack.Unpack(b, most); e != api.OK || !bytes.Equal(out, data) {
				t.Fatalf("Unpack(Pack(%v), %d) is %v, %v", data, most, out, e)
			}
		}
	}
}

// P6.4

func TestPackedBytesAreAtMostEightMore(t *testing.T) {
	chance := rand.New(rand.NewSource(65))
	for _, size := range []int{0, 1, 2, 3, 4, 5, 16, 126, 127, 128, 129, 1000, 16382, 16383, 16384, 16385, 40000, 65535, 65536} {
		data := anyBytes(chance, size)
		b := mustPack(t, data)
		if len(b) > size+8 {
			t.Errorf("%d bytes are %d, packed", size, len(b))
		}
		if want := len(num(size)) + size + 5; len(b) > want {
			t.Errorf("%d bytes are %d, packed, and not at most %d", size, len(b), want)
		}
	}
	for range 2000 {
		data := anyData(chance, 500)
		if b := mustPack(t, data); len(b) > len(data)+8 {
			t.Errorf("%d bytes are %d, packed", len(data), len(b))
		}
	}
}

// P6.5

func TestChangesWithin32BitsAreTold(t *testing.T) {
	chance := rand.New(rand.NewSource(66))
	data := anyBytes(chance, 200)
	b := mustPack(t, data)
	first := len(b) - 4 - len(data)
	if b[0] != 0 {
		t.Fatalf("the mode is %d", b[0])
	}
	for from := 8 * first; from+32 <= 8*(first+len(data)); from++ {
		patterns := []uint32{1, 1 << 31, 1<<31 + 1, 1<<32 - 1, 0x82F63B78, 0x05EC76F1}
		for range 4 {
			patterns = append(patterns, 1+uint32(chance.Int63n(1<<32-1)))
		}
		for _, pattern := range patterns {
			other := slices.Clone(b)
			for i := range 32 {
				other[(from+i)/8] ^= byte(pattern>>i&1) << ((from + i) % 8)
			}
			if out, e := pack.Unpack(other, 1<<16); e != api.ErrSum || len(out) != 0 {
				t.Fatalf("bits %x turned from %d on: %d bytes, %v", pattern, from, len(out), e)
			}
		}
	}
}

// R4

// fewTexts have each mode, and each kind of literals.
func fewTexts() []string {
	return []string{"", "x", "xyz", "xxxxxxx", strings.Repeat("abcd", 12), strings.Repeat("abcdefghijklmno", 9),
		strings.Repeat("the quick brown fox jumps over the lazy dog; ", 20), string(fourApart(2))}
}

// inRoom is data in the midst of a room with other bytes.
func inRoom(data []byte) (room, part []byte) {
	room = slices.Concat([]byte("ahead"), data, []byte("spare room behind"))
	return room, room[5 : 5+len(data)]
}

func TestWhatIsHandedInStays(t *testing.T) {
	for _, text := range fewTexts() {
		room, part := inRoom([]byte(text))
		before := slices.Clone(room)
		b := mustPack(t, part)
		if !bytes.Equal(room, before) {
			t.Errorf("Pack(%q) changed what was handed in, or what is about it", text)
		}
		room, part = inRoom(b)
		before = slices.Clone(room)
		if _, e := pack.Unpack(part, 1<<16); e != api.OK || !bytes.Equal(room, before) {
			t.Errorf("Unpack(Pack(%q)) is %v, or changed what was handed in", text, e)
		}
	}
}

func TestAnswersAreNewMemory(t *testing.T) {
	for _, text := range fewTexts() {
		data := []byte(text)
		b := mustPack(t, data)
		kept := slices.Clone(b)
		clear(data)
		if !bytes.Equal(b, kept) {
			t.Errorf("Pack(%q) shares memory with what was handed in", text)
		}
		out, e := pack.Unpack(b, 1<<16)
		clear(b)
		if e != api.OK || string(out) != text {
			t.Errorf("Unpack(Pack(%q)) shares memory with what was handed in", text)
		}
		again, _ := pack.Unpack(kept, 1<<16)
		clear(out[:cap(out)])
		if !bytes.Equal(mustPack(t, []byte(text)), kept) || string(again) != text {
			t.Errorf("two answers for %q share memory", text)
		}
	}
}

func TestNilAndEmptyAreOne(t *testing.T) {
	for _, data := range [][]byte{nil, {}} {
		wantPack(t, data, make([]byte, 6))
		if out, e := pack.Unpack(data, 9); e != api.ErrData || len(out) != 0 {
			t.Errorf("Unpack(%v) is %v, %v", data, out, e)
		}
	}
	if out, e := pack.Unpack(make([]byte, 6), 0); e != api.OK || len(out) != 0 {
		t.Errorf("%v, %v", out, e)
	}
}
