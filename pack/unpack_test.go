package pack_test

import (
	"math"
	"math/rand"
	"slices"
	"strings"
	"testing"

	"kist/api"
	"kist/pack"
)

func wantUnpack(t *testing.T, data []byte, most int, want string, e api.Errno) {
	t.Helper()
	if out, f := pack.Unpack(data, most); f != e || string(out) != want {
		t.Errorf("Unpack(%v, %d) is %q, %v, not %q, %v", data, most, out, f, want, e)
	}
}

// wantText: data are text, and everything that lacks an end or has one more byte is of no form.
func wantText(t *testing.T, text string, parts ...[]byte) {
	t.Helper()
	data := join(parts...)
	wantUnpack(t, data, 1<<16, text, api.OK)
	wantUnpack(t, data, len(text), text, api.OK)
	if len(text) > 0 {
		wantUnpack(t, data, len(text)-1, "", api.ErrBig)
	}
	for i := range data {
		wantUnpack(t, data[:i], 1<<16, "", api.ErrData)
	}
	wantUnpack(t, join(data, []byte{0}), 1<<16, "", api.ErrData)
	for i := range 32 {
		data[len(data)-4+i/8] ^= 1 << (i % 8)
		wantUnpack(t, data, 1<<16, "", api.ErrSum)
		data[len(data)-4+i/8] ^= 1 << (i % 8)
	}
}

// wantNoForm: data would be text, but for their form.
func wantNoForm(t *testing.T, text string, parts ...[]byte) {
	t.Helper()
	wantUnpack(t, join(join(parts...), sum(text)), 1<<16, "", api.ErrData)
}

// P6.2

func TestUnpackExamples(t *testing.T) {
	seven := join([]byte{1, 7, 120}, sum("xxxxxxx"))
	wantUnpack(t, seven, 7, "xxxxxxx", api.OK)
	wantUnpack(t, seven, 6, "", api.ErrBig)
	wantUnpack(t, join(seven, []byte{0}), 9, "", api.ErrData)
	wantUnpack(t, []byte{3}, 9, "", api.ErrData)
	wantUnpack(t, []byte{0, 1, 120, 0, 0, 0, 0}, 9, "", api.ErrSum)
	wantUnpack(t, make([]byte, 6), 0, "", api.OK)
}

func TestUnpackWrongMost(t *testing.T) {
	seven := join([]byte{1, 7, 120}, sum("xxxxxxx"))
	for _, data := range [][]byte{nil, {3}, {0, 200}, seven, make([]byte, 6)} {
		for _, most := range []int{-1, 1<<16 + 1, math.MinInt, math.MaxInt, -7, 1 << 32} {
			wantUnpack(t, data, most, "", api.ErrArg)
		}
	}
	wantUnpack(t, seven, 1<<16, "xxxxxxx", api.OK)
}

// What is too big is told by the head alone, whatever follows.
func TestUnpackTooBig(t *testing.T) {
	for mode := range byte(3) {
		for _, l := range []struct{ n, most int }{{1, 0}, {10, 9}, {128, 127}, {1 << 16, 1<<16 - 1}, {1<<16 + 1, 1 << 16}, {1<<32 - 1, 1 << 16}, {1<<32 - 1, 0}} {
			wantUnpack(t, head(mode, l.n), l.most, "", api.ErrBig)
			wantUnpack(t, join(head(mode, l.n), []byte{1, 2, 3, 4, 5, 6, 7, 8}), l.most, "", api.ErrBig)
		}
		wantUnpack(t, head(mode, 9), 9, "", api.ErrData) // no more than most, but nothing follows
		wantUnpack(t, head(mode, 0), 0, "", api.ErrData)
	}
	for _, mode := range []byte{3, 4, 128, 255} {
		wantUnpack(t, head(mode, 10), 9, "", api.ErrData) // no mode
		wantUnpack(t, head(mode, 1), 9, "", api.ErrData)
		wantUnpack(t, join(head(mode, 1), []byte("x"), sum("x")), 9, "", api.ErrData)
	}
}

func TestUnpackNoShortNumber(t *testing.T) {
	for mode := range byte(3) {
		for _, number := range [][]byte{{}, {128}, {129, 0}, {255, 255, 255, 255, 255}, {255, 255, 255, 255, 16}, {128, 128, 128, 128, 128, 1}} {
			wantUnpack(t, join([]byte{mode}, number), 0, "", api.ErrData)
			wantUnpack(t, join([]byte{mode}, number), 1<<16, "", api.ErrData)
		}
	}
	wantNoForm(t, "x", []byte{0, 129, 0, 'x'})
	wantNoForm(t, "x", []byte{1, 129, 0, 'x'})
}

func TestUnpackRaw(t *testing.T) {
	wantText(t, "", []byte{0, 0}, sum(""))
	for _, text := range []string{"x", "xx", "xxxxxxxxxxxx", "xyz", strings.Repeat("ab", 100)} { // whether another mode were shorter is not asked
		wantText(t, text, head(0, len(text)), []byte(text), sum(text))
	}
	wantNoForm(t, "xyz", []byte{0, 2, 'x', 'y', 'z'})
	wantNoForm(t, "xyz", []byte{0, 4, 'x', 'y', 'z'})
	wantUnpack(t, []byte{0, 1, 'x', 0xe3, 0x06, 0x92, 0x83}, 9, "", api.ErrSum)
	wantUnpack(t, []byte{0, 9, '1', '2', '3', '4', '5', '6', '7', '8', '9', 0x83, 0x92, 0x06, 0xe3}, 9, "123456789", api.OK)
	wantUnpack(t, []byte{0, 9, '1', '2', '3', '4', '5', '6', '7', '8', '9', 0xe3, 0x06, 0x92, 0x83}, 9, "", api.ErrSum)
}

func TestUnpackRun(t *testing.T) {
	for _, n := range []int{1, 2, 3, 127, 128, 300, 1 << 16} {
		text := strings.Repeat("x", n)
		wantText(t, text, head(1, n), []byte("x"), sum(text))
	}
	wantNoForm(t, "", []byte{1, 0})
	wantNoForm(t, "", []byte{1, 0, 'x'})
	wantNoForm(t, "xx", []byte{1, 2, 'x', 'x'})
	wantNoForm(t, "xx", []byte{1, 2})
}

func TestUnpackLiteralsAlone(t *testing.T) {
	wantText(t, "xyz", head(2, 3), plain("xyz"), steps(), sum("xyz"))
	wantText(t, "x", head(2, 1), plain("x"), steps(), sum("x"))
	ab := append(make([]int, 97), 1, 1)
	wantText(t, "abba", head(2, 4), coded(ab, "abba"), steps(), sum("abba"))
	wantText(t, "aaa", head(2, 3), coded(append(make([]int, 97), 1), "aaa"), steps(), sum("aaa"))
	odd := append(make([]int, 97), 3, 3, 2, 1) // no lengths that their counts would give
	wantText(t, "aaab", head(2, 4), coded(odd, "aaab"), steps(), sum("aaab"))

	wantNoForm(t, "", head(2, 0), plain(""), steps())
	wantNoForm(t, "", head(2, 0))
	wantNoForm(t, "xyz", head(2, 4), plain("xyz"), steps())
	wantNoForm(t, "xyz", head(2, 2), plain("xyz"), steps())
	wantNoForm(t, "", head(2, 1), plain(""), steps())
	wantNoForm(t, "", head(2, 1), coded(ab, ""), steps())
	wantNoForm(t, "abba", head(2, 3), coded(ab, "abba"), steps())
	wantNoForm(t, "xyz", head(2, 3), []byte{3, 2, 'x', 'y', 'z'}, steps())
	wantNoForm(t, "xyz", head(2, 3), []byte{3, 255, 'x', 'y', 'z'}, steps())
	wantNoForm(t, "xyz", head(2, 3), []byte{131, 0, 0, 'x', 'y', 'z'}, steps()) // not the shortest
	wantNoForm(t, "xyz", head(2, 3), []byte{255, 255, 255, 255, 15, 0, 'x', 'y', 'z'}, steps())
	wantNoForm(t, "xyz", head(2, 3), plain("xyz"), []byte{128, 0})
}

func TestUnpackCodesOfLiterals(t *testing.T) {
	// the bytes 0 and 1, a bit each: 1 17 is their table
	text := "\x00\x01\x01\x00\x01"
	front := []byte{2, 5, 5, 1, 1, 17}
	wantText(t, text, front, []byte{1, 22}, steps(), sum(text))
	wantNoForm(t, text, front, []byte{1, 22 + 32}, steps())  // a bit behind the last code
	wantNoForm(t, text, front, []byte{1, 22 + 128}, steps()) // and the last one
	wantNoForm(t, text, front, []byte{2, 22, 0}, steps())    // a byte too many
	wantNoForm(t, text, front, []byte{0}, steps())
	wantNoForm(t, text, front, []byte{0, 22}, steps())
	wantNoForm(t, text, front, []byte{129, 0, 22}, steps())
	wantNoForm(t, text, front, []byte{255, 255, 255, 255, 15, 22}, steps())
	wantNoForm(t, text, []byte{2, 5, 5, 1, 1, 33, 1, 22}, steps())    // lengths 1 2 may not be
	wantNoForm(t, text, []byte{2, 5, 5, 1, 0, 17, 1, 22}, steps())    // a bit behind the table
	wantNoForm(t, text, []byte{2, 5, 5, 1, 0, 1, 1, 22}, steps())     // one code, which 22 is not made of
	wantNoForm(t, text, []byte{2, 5, 5, 1, 2, 17, 0, 1, 22}, steps()) // the last length is 0
}

// oneStep is the parts of abcd, twelve times, as a step {4, 44, 4}; the sum comes with wantText and wantNoForm.
func oneStep() (string, [][]byte) {
	return strings.Repeat("abcd", 12), [][]byte{
		head(2, 48),
		plain("abcd"),
		num(1),
		stream(only(3, 6), 6, 3),
		stream(only(6, 6), 6, 6),
		stream(only(2, 6), 6, 2),
		{1, 160},
	}
}

// with is the parts with another one at a place.
func with(parts [][]byte, at int, part ...byte) []byte {
	other := slices.Clone(parts)
	other[at] = part
	return join(other...)
}

func TestUnpackOneStep(t *testing.T) {
	text, parts := oneStep()
	wantText(t, text, join(parts...), sum(text))
	for at, l := range [][][]byte{
		{head(2, 47), head(2, 49), head(2, 4), head(2, 3)},
		{plain("abc"), plain("abcde"), plain(""), plain(text)},
		{num(0), num(2), num(12), num(13), num(1<<32 - 1), {129, 0}, {}},
		{stream(only(2, 6), 6, 2), stream(only(4, 6), 6, 4), {}},
		{stream(only(5, 6), 6, 5), stream(only(7, 6), 6, 7), stream(only(16, 6), 6, 16)},
		{stream(only(3, 6), 6, 3), stream(only(16, 6), 6, 16)},
		{{1, 161}, {1, 162}, {1, 164}, {1, 128}, {0}, {2, 160, 0}, {2, 160, 1}, {0, 160}, {129, 0, 160}, {255, 255, 255, 255, 15, 160}, {}},
	} {
		for _, part := range l {
			if out, e := pack.Unpack(join(with(parts, at, part...), sum(text)), 1<<16); e != api.ErrData || len(out) != 0 {
				t.Errorf("part %d is %v: %q, %v", at, part, out, e)
			}
		}
	}
	wantUnpack(t, join(with(parts, 6, 1, 32), sum(text)), 1<<16, "", api.ErrSum) // from three back it makes other bytes, but as many
}

// Any share of at most 17 codes will do, and any log of a table.
func TestUnpackAnyShare(t *testing.T) {
	text, parts := oneStep()
	for log := 5; log <= 9; log++ {
		size := 1 << log
		for _, share := range [][]int{only(3, log), {0, 0, 1, size - 1}, {0, 0, size - 1, 1}, {1, 0, 0, 1, 0, size - 2},
			append(make([]int, 3), 1, 0, 0, 0, 0, 0, 0, 0, 0, 0, 0, 0, 0, size-1)} {
			wantText(t, text, with(parts, 3, stream(share, log, 3)...), sum(text))
		}
		for _, many := range []int{18, 19, 64} {
			share := make([]int, many)
			share[3], share[many-1] = size-1, 1
			wantNoForm(t, text, with(parts, 3, stream(share, log, 3)...))
		}
		wantNoForm(t, text, with(parts, 3, byte(log), 4, 0, 0, 0, byte(size/8), 1, 64)) // too few for the log
	}
	for _, log := range []byte{0, 4, 10, 255} {
		wantNoForm(t, text, with(parts, 3, log, 4, 0, 0, 0, 64, 1, 64))
	}
	for _, part := range [][]byte{
		{6, 5, 0, 0, 0, 64, 0, 1, 64}, // the last one is 0
		{6, 4, 0, 0, 0, 63, 1, 64},
		{6, 4, 0, 0, 0, 65, 1, 64},
		{6, 4, 0, 0, 0, 192, 0, 1, 64},
		{6, 0, 1, 64},
		{6, 132, 0, 0, 0, 0, 64, 1, 64},
		{6, 4, 0, 0, 0, 64, 1, 0},     // no mark
		{6, 4, 0, 0, 0, 64, 0},        // no codes
		{6, 4, 0, 0, 0, 64, 1, 32},    // too few bits
		{6, 4, 0, 0, 0, 64, 1, 128},   // one that is left
		{6, 4, 0, 0, 0, 64, 1, 65},    // the place is not 0 in the end
		{6, 4, 0, 0, 0, 64, 2, 64, 0}, // no mark, for a byte too many
		{6, 4, 0, 0, 0, 64, 2, 64, 1},
		{6, 4, 0, 0, 0, 64, 129, 0, 64},
		{6, 4, 0, 0, 0, 64, 255, 255, 255, 255, 15, 64},
	} {
		wantNoForm(t, text, with(parts, 3, part...))
	}
}

// Of a step {6, 41, 6} the rests have nine bits, and so seven that fill.
func TestUnpackRests(t *testing.T) {
	text := strings.Repeat("hello ", 8)[:47]
	front := join(head(2, 47), plain("hello "), num(1), stream(only(3, 6), 6, 3), stream(only(6, 6), 6, 6), stream(only(3, 6), 6, 3))
	wantText(t, text, front, []byte{2, 150, 0}, sum(text))
	for bit := 1; bit < 8; bit++ {
		wantNoForm(t, text, front, []byte{2, 150, 1 << bit})
	}
	wantNoForm(t, text, front, []byte{1, 150})
	wantNoForm(t, text, front, []byte{3, 150, 0, 0})
	wantNoForm(t, text, front, []byte{0})
}

// Of a step {5, 41, 5} the last two bits are 0, of which one stands in the first byte: without the second one they are not there.
func TestUnpackRestsThatAreCut(t *testing.T) {
	text := strings.Repeat("hello", 10)[:46]
	front := join(head(2, 46), plain("hello"), num(1), stream(only(3, 6), 6, 3), stream(only(6, 6), 6, 6), stream(only(3, 6), 6, 3))
	wantText(t, text, front, []byte{2, 21, 0}, sum(text))
	wantNoForm(t, text, front, []byte{1, 21})
}

// Any steps that can be run will do.
func TestUnpackAnySteps(t *testing.T) {
	for _, l := range []struct {
		literals string
		l        []api.Seq
		want     string
	}{
		{"a", []api.Seq{step(1, 4, 1)}, "aaaaa"}, // as many steps as may be
		{"a", []api.Seq{step(1, 4, 1), step(0, 4, 2)}, "aaaaaaaaa"},
		{"abcdx", []api.Seq{step(4, 4, 4), step(0, 4, 8)}, "abcdabcdabcdx"}, // two for one, and a literal behind
		{"abcd", []api.Seq{step(4, 300, 4)}, strings.Repeat("abcd", 76)},    // longer than a match
		{"ab", []api.Seq{step(1, 4, 1), step(1, 5, 1)}, "aaaaabbbbbb"},
		{"a", []api.Seq{step(1, 1<<16-1, 1)}, strings.Repeat("a", 1<<16)}, // 65531 has 16 bits
		{strings.Repeat("ab", 1<<15-2), []api.Seq{step(1<<16-4, 4, 1<<16-4)}, strings.Repeat("ab", 1<<15)},
		{strings.Repeat("ab", 20000), []api.Seq{step(20000, 5000, 20000), step(0, 9, 300)}, strings.Repeat("ab", 12504) + "a" + strings.Repeat("ab", 10000)},
	} {
		front := join(head(2, len(l.want)), plain(l.literals))
		for _, log := range []int{6, 9} {
			data := join(front, stepsAs(l.l, log, func(counts []int) []int { return evenly(counts, log) }), sum(l.want))
			wantUnpack(t, data, 1<<16, l.want, api.OK)
			wantUnpack(t, data, len(l.want)-1, "", api.ErrBig)
		}
		wantUnpack(t, join(front, steps(l.l...), sum(l.want)), len(l.want), l.want, api.OK)
		wantUnpack(t, join(head(2, len(l.want)+1), plain(l.literals), steps(l.l...), sum(l.want)), 1<<16, "", tooBig(len(l.want)+1))
		wantUnpack(t, join(head(2, len(l.want)-1), plain(l.literals), steps(l.l...), sum(l.want)), 1<<16, "", api.ErrData)
	}
}

func tooBig(n int) api.Errno {
	if n > 1<<16 {
		return api.ErrBig
	}
	return api.ErrData
}

// evenly is a share by which all codes that stand, and the last of all, have as much as the others, whatever their counts.
func evenly(counts []int, log int) []int {
	stand := 0
	share := make([]int, len(counts))
	for code, count := range counts {
		if count > 0 || code == len(counts)-1 {
			share[code] = 1
			stand++
		}
	}
	share[len(share)-1] += 1<<log - stand
	return share
}

func TestUnpackStepsThatCannotBeRun(t *testing.T) {
	for _, l := range []struct {
		n        int
		literals string
		l        []api.Seq
	}{
		{5, "a", []api.Seq{step(1, 4, 2)}},                 // nothing stands so far ahead
		{4, "", []api.Seq{step(0, 4, 1)}},                  // nothing stands ahead
		{6, "a", []api.Seq{step(2, 4, 1)}},                 // more literals than there are
		{5, "a", []api.Seq{step(1, 5, 1)}},                 // more bytes than n
		{5, "ab", []api.Seq{step(1, 4, 1)}},                // by a literal behind
		{6, "a", []api.Seq{step(1, 4, 1)}},                 // fewer
		{8, "a", []api.Seq{step(1, 4, 1), step(0, 4, 1)}},  // more in the second step
		{9, "ab", []api.Seq{step(1, 4, 1), step(2, 4, 1)}}, // too few literals then
		{5, "a", []api.Seq{step(1, 4, 1), step(0, 4, 1)}},  // more steps than n/4
	} {
		wantNoForm(t, "", head(2, l.n), plain(l.literals), steps(l.l...))
		wantNoForm(t, strings.Repeat("a", l.n), head(2, l.n), plain(l.literals), steps(l.l...))
	}
}

// R1, and all of P6.2 where forms are changed here and there

// spoiled is data with something changed; often its sum is put right again.
func spoiled(chance *rand.Rand, data []byte) []byte {
	other := slices.Clone(data)
	for range 1 + chance.Intn(3) {
		at := chance.Intn(len(other))
		if at > 40 && chance.Intn(2) == 0 {
			at = chance.Intn(40)
		}
		switch chance.Intn(5) {
		case 0:
			other[at] ^= 1 << chance.Intn(8)
		case 1:
			other[at]++
		case 2:
			other[at] = byte(chance.Intn(256))
		case 3:
			other = slices.Insert(other, at, byte(chance.Intn(3)))
		case 4:
			if len(other) > 1 {
				other = slices.Delete(other, at, at+1)
			}
		}
	}
	if out, e := slowBody(other, 1<<16); e == api.OK && chance.Intn(2) == 0 {
		copy(other[len(other)-4:], sum(out))
	}
	return other
}

func TestUnpackIsTheDocuments(t *testing.T) {
	chance := rand.New(rand.NewSource(67))
	seen := map[api.Errno]int{}
	for i := range 60000 {
		data := anyData(chance, 1<<chance.Intn(9))
		forms, _ := slowForms(data)
		form := forms[2]
		if i%8 == 0 || form == nil {
			form = forms[0]
		}
		other := spoiled(chance, form)
		most := 1 << 16
		if i%4 == 0 {
			most = len(data) + chance.Intn(3) - 1
		}
		want, e := slowUnpack(other, most)
		seen[e]++
		if out, f := pack.Unpack(other, most); f != e || !slices.Equal(out, want) {
			t.Fatalf("Unpack(%v, %d) is %v, %v, not %v, %v", other, most, out, f, want, e)
		}
	}
	for _, e := range []api.Errno{api.OK, api.ErrBig, api.ErrData, api.ErrSum} {
		if seen[e] < 100 {
			t.Errorf("%v came %d times", e, seen[e])
		}
	}
}

func TestUnpackOfAnything(t *testing.T) {
	chance := rand.New(rand.NewSource(68))
	for range 60000 {
		data := anyBytes(chance, chance.Intn(80))
		for i := range min(len(data), 30) {
			if chance.Intn(3) > 0 {
				data[i] = byte(chance.Intn(8))
			}
		}
		if len(data) > 0 {
			data[0] %= 4
		}
		want, e := slowUnpack(data, 1<<16)
		if out, f := pack.Unpack(data, 1<<16); f != e || !slices.Equal(out, want) {
			t.Fatalf("Unpack(%v) is %v, %v, not %v, %v", data, out, f, want, e)
		}
	}
}
