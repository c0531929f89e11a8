package fse_test

import (
	"math"
	"math/bits"
	"math/rand"
	"slices"
	"strings"
	"testing"

	"kist/api"
	"kist/fse"
)

// fromText is the row of bits that text tells, as bytes.
func fromText(text string) []byte {
	text = strings.ReplaceAll(text, " ", "")
	row := make([]byte, (len(text)+7)/8)
	for i, digit := range text {
		row[i/8] |= byte(digit-'0') << (i % 8)
	}
	return row
}

// toText is the row of bits ahead of the mark.
func toText(packed []byte) (string, bool) {
	var text strings.Builder
	for i := range 8 * len(packed) {
		text.WriteByte('0' + packed[i/8]>>(i%8)&1)
	}
	row := text.String()
	if len(packed) == 0 || packed[len(packed)-1] == 0 {
		return "", false
	}
	return row[:strings.LastIndex(row, "1")], true
}

// lowFirst is a number in n digits, the lowest first.
func lowFirst(n, value int) string {
	text := ""
	for range n {
		text += string(rune('0' + value%2))
		value /= 2
	}
	return text
}

func numberOf(text string) int {
	value := 0
	for i, digit := range text {
		value += int(digit-'0') << i
	}
	return value
}

// stands are the rising places of each symbol, as the document tells them.
func stands(share []int, log int) [][]int {
	size := 1 << log
	list := make([][]int, len(share))
	at := 0
	for symbol, many := range share {
		for range many {
			list[symbol] = append(list[symbol], at%size)
			at += size/2 + size/8 + 3
		}
		slices.Sort(list[symbol])
	}
	return list
}

// slowEncode is P3.3 told once more, over a text of digits.
func slowEncode(share []int, log int, symbols []int) []byte {
	places := stands(share, log)
	var row strings.Builder
	state := 1 << log
	for i := len(symbols) - 1; i >= 0; i-- {
		symbol := symbols[i]
		n := 0
		for state/(1<<n) >= 2*share[symbol] {
			n++
		}
		row.WriteString(lowFirst(n, state%(1<<n)))
		state = 1<<log + places[symbol][state/(1<<n)-share[symbol]]
	}
	row.WriteString(lowFirst(log, state-1<<log) + "1")
	return fromText(row.String())
}

// slowDecode is P3.4 told once more, likewise, for a share that may be and an n of 0 to 2^16.
func slowDecode(share []int, log int, packed []byte, n int) ([]int, api.Errno) {
	row, marked := toText(packed)
	if !marked || len(row) < log {
		return nil, api.ErrBits
	}
	places := stands(share, log)
	at := numberOf(row[len(row)-log:])
	row = row[:len(row)-log]
	var symbols []int
	for range n {
		symbol := slices.IndexFunc(places, func(l []int) bool { return slices.Contains(l, at) })
		x := share[symbol] + slices.Index(places[symbol], at)
		many := log - bits.Len(uint(x)) + 1
		if len(row) < many {
			return nil, api.ErrBits
		}
		symbols = append(symbols, symbol)
		at = x<<many - 1<<log + numberOf(row[len(row)-many:])
		row = row[:len(row)-many]
	}
	if at != 0 || row != "" {
		return nil, api.ErrBits
	}
	return symbols, api.OK
}

// anyShare is one that may be, with few symbols or many, and with some that have nothing.
func anyShare(chance *rand.Rand, log int) []int {
	share := make([]int, 1+chance.Intn(64))
	some := 1 + chance.Intn(len(share))
	for range 1<<log - 1 {
		share[chance.Intn(some)]++
	}
	if last := len(share) - 1; chance.Intn(2) == 0 {
		share[last]++
	} else {
		share[chance.Intn(some)]++
	}
	for share[len(share)-1] == 0 {
		share = share[:len(share)-1]
	}
	return share
}

// someSymbols are n of those that have some of share.
func someSymbols(chance *rand.Rand, share []int, n int) []int {
	var stand, symbols []int
	for symbol, many := range share {
		stand = append(stand, slices.Repeat([]int{symbol}, many)...)
	}
	for range n {
		symbols = append(symbols, stand[chance.Intn(len(stand))])
	}
	return symbols
}

func wantEncode(t *testing.T, share []int, log int, symbols []int, want []byte) {
	t.Helper()
	if got, e := fse.Encode(share, log, symbols); e != api.OK || !slices.Equal(got, want) {
		t.Errorf("Encode(%v, %d, %v) is %v, %v, not %v", share, log, symbols, got, e, want)
	}
}

func wantNoEncode(t *testing.T, share []int, log int, symbols []int) {
	t.Helper()
	if got, e := fse.Encode(share, log, symbols); e != api.ErrArg || len(got) != 0 {
		t.Errorf("Encode(%v, %d, %d symbols) is %d bytes, %v", share, log, len(symbols), len(got), e)
	}
}

func wantDecode(t *testing.T, share []int, log int, packed []byte, n int, want []int, wantE api.Errno) {
	t.Helper()
	if got, e := fse.Decode(share, log, packed, n); e != wantE || !slices.Equal(got, want) {
		t.Errorf("Decode(%v, %d, %v, %d) is %v, %v, not %v, %v", share, log, packed, n, got, e, want, wantE)
	}
}

func wantBoth(t *testing.T, share []int, log int, symbols []int, packed []byte) {
	t.Helper()
	wantEncode(t, share, log, symbols, packed)
	wantDecode(t, share, log, packed, len(symbols), symbols, api.OK)
}

func example() []int { return []int{12, 4, 0, 16} }

// P3.3, and that Decode reads it

func TestNoSymbols(t *testing.T) {
	wantBoth(t, []int{32}, 5, nil, []byte{32})
	wantBoth(t, example(), 5, nil, []byte{32})
	wantBoth(t, []int{64}, 6, nil, []byte{64})
	wantBoth(t, []int{128}, 7, nil, []byte{128})
	wantBoth(t, []int{256}, 8, nil, []byte{0, 1})
	wantBoth(t, []int{512}, 9, nil, []byte{0, 2})
}

func TestOneSymbolHasAllAndTakesNoBits(t *testing.T) {
	wantBoth(t, []int{32}, 5, []int{0, 0, 0}, []byte{32})
	wantBoth(t, []int{0, 0, 32}, 5, []int{2, 2}, []byte{32})
	wantBoth(t, []int{512}, 9, make([]int, 1<<16), []byte{0, 2})
}

func TestSymbolsByHand(t *testing.T) {
	// symbol 0 stands at 0 1 5 6 10 14 15 19 23 24 28 29, symbol 1 at 2 11 20 25, symbol 3 at all others
	wantBoth(t, example(), 5, []int{0}, fromText("0 01010 1"))   // 32 loses a bit: 16, the fifth of symbol 0: place 10
	wantBoth(t, example(), 5, []int{1}, fromText("000 01000 1")) // 32 loses three: 4, the first of symbol 1: place 2
	wantBoth(t, example(), 5, []int{3}, fromText("0 11000 1"))   // 16, the first of symbol 3: place 3
	wantBoth(t, []int{16, 16}, 5, []int{0}, fromText("0 00000 1"))
	wantBoth(t, same(1, 32), 5, []int{0}, fromText("00000 00000 1"))
	wantBoth(t, same(1, 32), 5, []int{1}, fromText("00000 11101 1")) // place 23
	wantBoth(t, same(1, 32), 5, []int{1, 2}, fromText("00000 01110 11101 1"))
	wantBoth(t, same(1, 32), 5, []int{2, 1}, fromText("00000 11101 01110 1"))
}

// TestPlacesOfASymbol: the last bits that are put tell the place at which the first symbol stands.
func TestPlacesOfASymbol(t *testing.T) {
	chance := rand.New(rand.NewSource(5))
	found := map[int]bool{}
	for range 2000 {
		symbols := append([]int{0}, someSymbols(chance, example(), 12)...)
		packed, e := fse.Encode(example(), 5, symbols)
		row, marked := toText(packed)
		if e != api.OK || !marked {
			t.Fatalf("Encode(%v) is %v, %v", symbols, packed, e)
		}
		found[numberOf(row[len(row)-5:])] = true
	}
	told := []int{0, 23, 14, 5, 28, 19, 10, 1, 24, 15, 6, 29}
	if len(found) != len(told) {
		t.Errorf("symbol 0 stands at %v", found)
	}
	for _, place := range told {
		if !found[place] {
			t.Errorf("symbol 0 does not stand at %d", place)
		}
	}
}

func TestEncodeOfManySymbols(t *testing.T) {
	chance := rand.New(rand.NewSource(6))
	for range 2000 {
		log := 5 + chance.Intn(5)
		share := anyShare(chance, log)
		symbols := someSymbols(chance, share, chance.Intn(60))
		wantBoth(t, share, log, symbols, slowEncode(share, log, symbols))
	}
}

func TestEncodeOfSharesWithEachShape(t *testing.T) {
	chance := rand.New(rand.NewSource(7))
	for _, l := range []logged{
		{[]int{31, 1}, 5}, {[]int{1, 31}, 5}, {same(1, 32), 5}, {same(1, 64), 6}, {same(2, 64), 7}, {same(8, 64), 9},
		{join(make([]int, 63), []int{32}), 5}, {join([]int{1}, make([]int, 62), []int{511}), 9}, {join([]int{449}, same(1, 63)), 9},
		{[]int{0, 5, 0, 27}, 5}, {[]int{100, 28}, 7}, {[]int{255, 1}, 8},
	} {
		for n := range 200 {
			symbols := someSymbols(chance, l.share, n)
			wantBoth(t, l.share, l.log, symbols, slowEncode(l.share, l.log, symbols))
		}
		for symbol, many := range l.share { // also those that seldom stand
			if many > 0 {
				symbols := same(symbol, 20)
				wantBoth(t, l.share, l.log, symbols, slowEncode(l.share, l.log, symbols))
			}
		}
	}
}

func TestEncodeRefusesSymbolsWithoutAShare(t *testing.T) {
	for _, wrong := range []int{2, 4, 5, 63, 64, 65, 512, -1, -2, math.MinInt, math.MaxInt} {
		wantNoEncode(t, example(), 5, []int{wrong})
		wantNoEncode(t, example(), 5, []int{wrong, 0, 1, 3})
		wantNoEncode(t, example(), 5, []int{0, 1, 3, wrong})
	}
	wantNoEncode(t, []int{32}, 5, []int{1})
	wantNoEncode(t, []int{0, 32}, 5, []int{0})
}

func TestEncodeRefusesTooManySymbols(t *testing.T) {
	chance := rand.New(rand.NewSource(8))
	most := someSymbols(chance, example(), 1<<16)
	wantBoth(t, example(), 5, most, slowEncode(example(), 5, most))
	wantNoEncode(t, example(), 5, append(slices.Clip(most), 0))
	wantNoEncode(t, []int{512}, 9, make([]int, 1<<16+1))
	wantNoEncode(t, []int{512}, 9, make([]int, 1<<20))
}

// P3.4

func TestDecodeRefusesCounts(t *testing.T) {
	for _, n := range []int{-1, 1<<16 + 1, math.MinInt, math.MaxInt} {
		for _, packed := range [][]byte{{32}, nil, {0}} { // also where there is no mark
			wantDecode(t, []int{32}, 5, packed, n, nil, api.ErrArg)
		}
	}
	wantDecode(t, []int{32}, 5, []byte{32}, 1<<16, make([]int, 1<<16), api.OK)
}

func TestDecodeWithoutAMark(t *testing.T) {
	for _, packed := range [][]byte{nil, {}, {0}, {32, 0}, {255, 255, 0}} {
		for n := range 3 {
			wantDecode(t, []int{32}, 5, packed, n, nil, api.ErrBits)
			wantDecode(t, example(), 5, packed, n, nil, api.ErrBits)
		}
	}
}

func TestDecodeOfTooFewBits(t *testing.T) {
	for bit := range 5 {
		wantDecode(t, []int{32}, 5, []byte{1 << bit}, 0, nil, api.ErrBits) // fewer than the log
	}
	wantDecode(t, []int{512}, 9, []byte{0, 1}, 0, nil, api.ErrBits)
	wantDecode(t, example(), 5, fromText("01010 1"), 1, nil, api.ErrBits) // the bit of place 10 is not there
	wantDecode(t, example(), 5, fromText("0 01010 1"), 1, []int{0}, api.OK)
	wantDecode(t, same(1, 32), 5, fromText("0000 11101 1"), 1, nil, api.ErrBits)
	wantDecode(t, example(), 5, []byte{32}, 1<<16, nil, api.ErrBits)
}

func TestDecodeWithBitsLeft(t *testing.T) {
	wantDecode(t, []int{32}, 5, fromText("0 00000 1"), 3, nil, api.ErrBits)
	wantDecode(t, []int{32}, 5, fromText("1 00000 1"), 0, nil, api.ErrBits)
	wantDecode(t, []int{32}, 5, []byte{0, 32}, 3, nil, api.ErrBits)
	wantDecode(t, example(), 5, fromText("0 0 01010 1"), 1, nil, api.ErrBits)
	wantDecode(t, example(), 5, fromText("1 0 01010 1"), 1, nil, api.ErrBits)
}

func TestDecodeEndsAtPlaceZero(t *testing.T) {
	for place := range 32 {
		want := api.ErrBits
		if place == 0 {
			want = api.OK
		}
		for n := range 4 {
			var symbols []int
			if want == api.OK {
				symbols = make([]int, n)
			}
			wantDecode(t, []int{32}, 5, []byte{byte(32 | place)}, n, symbols, want)
		}
	}
	wantDecode(t, example(), 5, fromText("1 01010 1"), 1, nil, api.ErrBits) // at place 1 then
}

func TestDecodeOfAllShortRows(t *testing.T) {
	told := map[api.Errno]int{}
	for _, l := range []logged{{example(), 5}, {[]int{32}, 5}, {[]int{31, 1}, 5}, {same(1, 32), 5}, {[]int{10, 54}, 6}, {[]int{256}, 8}} {
		for value := range 1 << 13 {
			packed := []byte{byte(value), byte(value >> 8)}
			if value < 256 {
				packed = packed[:1]
			}
			for n := range 5 {
				want, wantE := slowDecode(l.share, l.log, packed, n)
				wantDecode(t, l.share, l.log, packed, n, want, wantE)
				told[wantE]++
			}
		}
	}
	if told[api.OK] < 100 || told[api.ErrBits] < 100 {
		t.Errorf("the rows told only %v", told)
	}
}

func TestDecodeOfChangedRows(t *testing.T) {
	chance := rand.New(rand.NewSource(9))
	for range 1500 {
		log := 5 + chance.Intn(5)
		share := anyShare(chance, log)
		n := chance.Intn(30)
		packed := slowEncode(share, log, someSymbols(chance, share, n))
		switch chance.Intn(3) {
		case 0:
			packed[chance.Intn(len(packed))] ^= 1 << chance.Intn(8)
		case 1:
			packed = packed[:chance.Intn(len(packed))]
		default:
			packed = append(packed, byte(chance.Intn(4)))
		}
		for _, many := range []int{n, n + 1, max(0, n-1)} {
			want, wantE := slowDecode(share, log, packed, many)
			wantDecode(t, share, log, packed, many, want, wantE)
		}
	}
}

// P3.5

func TestDecodeOfEncode(t *testing.T) {
	chance := rand.New(rand.NewSource(10))
	for range 500 {
		log := 5 + chance.Intn(5)
		counts := someCounts(chance, log)
		share := mustShare(t, counts, log)
		symbols := someSymbols(chance, share, chance.Intn(2000))
		packed, e := fse.Encode(share, log, symbols)
		if e != api.OK {
			t.Fatalf("Encode(%v, %d, %v) is %v", share, log, symbols, e)
		}
		wantDecode(t, share, log, packed, len(symbols), symbols, api.OK)
	}
}

// R4

func TestCodersLeaveWhatIsHandedIn(t *testing.T) {
	share, symbols := []int{12, 4, 0, 16, 7, 7}, []int{0, 3, 3, 1, 9, 9}
	packed, e := fse.Encode(share[:4], 5, symbols[:4])
	if e != api.OK || !slices.Equal(share, []int{12, 4, 0, 16, 7, 7}) || !slices.Equal(symbols, []int{0, 3, 3, 1, 9, 9}) {
		t.Fatalf("Encode: %v, %v, %v", share, symbols, e)
	}
	many := len(packed)
	data := append(packed, 9, 9)
	kept := slices.Clone(data)
	got, e := fse.Decode(share[:4], 5, data[:many], 4)
	if e != api.OK || !slices.Equal(share, []int{12, 4, 0, 16, 7, 7}) || !slices.Equal(data, kept) {
		t.Fatalf("Decode: %v, %v, %v", share, data, e)
	}
	clear(data)
	clear(share)
	if !slices.Equal(got, []int{0, 3, 3, 1}) {
		t.Errorf("the symbols are %v then", got)
	}
}
