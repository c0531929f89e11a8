package huff_test

import (
	"math"
	"math/rand"
	"slices"
	"strings"
	"testing"

	"kist/api"
	"kist/huff"
)

// fromText is the row of bits that text tells, as bytes.
func fromText(text string) []byte {
	text = strings.ReplaceAll(text, " ", "")
	row := make([]byte, (len(text)+7)/8)
	for i, digit := range text {
		row[i/8] |= byte(digit-'0') << (i % 8)
	}
	return row
}

// plus1 is the number that text tells, and 1, in as many digits.
func plus1(text string) string {
	digits := []byte(text)
	for i := len(digits) - 1; i >= 0; i-- {
		if digits[i] == '0' {
			digits[i] = '1'
			break
		}
		digits[i] = '0'
	}
	return string(digits)
}

// textCodes are the codes of bytes as the document tells them.
func textCodes(lengths []int) map[byte]string {
	var stand []int
	for b, length := range lengths {
		if length > 0 {
			stand = append(stand, b)
		}
	}
	slices.SortStableFunc(stand, func(a, b int) int { return lengths[a] - lengths[b] })
	codes := map[byte]string{}
	ahead := ""
	for i, b := range stand {
		if i > 0 {
			ahead = plus1(ahead)
		}
		ahead += strings.Repeat("0", lengths[b]-len(ahead))
		codes[byte(b)] = ahead
	}
	return codes
}

func wantEncode(t *testing.T, lengths []int, data, want []byte) {
	t.Helper()
	if got, e := huff.Encode(lengths, data); e != api.OK || !slices.Equal(got, want) {
		t.Errorf("Encode(%v, %v) is %v, %v, not %v", lengths, data, got, e, want)
	}
}

func wantDecode(t *testing.T, lengths []int, packed []byte, n int, want []byte, wantE api.Errno) {
	t.Helper()
	if got, e := huff.Decode(lengths, packed, n); e != wantE || !slices.Equal(got, want) {
		t.Errorf("Decode(%v, %v, %d) is %v, %v, not %v, %v", lengths, packed, n, got, e, want, wantE)
	}
}

func example() []int { return []int{1, 2, 0, 2} }

func chain() []int { return []int{1, 2, 3, 4, 5, 6, 7, 8, 9, 10, 11, 11} }

// P2.4

func TestEncode(t *testing.T) {
	wantEncode(t, example(), []byte{0, 1, 3}, []byte{26})
	wantEncode(t, example(), []byte{0, 1, 3}, fromText("0 10 11"))
	wantEncode(t, example(), nil, nil)
	wantEncode(t, example(), []byte{3, 3, 3, 3}, []byte{255})
	wantEncode(t, example(), []byte{3, 3, 3, 3, 0}, []byte{255, 0})
	wantEncode(t, example(), []byte{1, 0, 1, 0, 3, 0, 1}, fromText("10 0 10 0 11 0 10"))
	wantEncode(t, chain(), []byte{11, 10, 0, 9, 2}, fromText("11111111111 11111111110 0 1111111110 110"))
}

func TestEncodeOrdersCodesByLengthThenByte(t *testing.T) {
	wantEncode(t, []int{2, 1, 2}, []byte{0, 1, 2}, fromText("10 0 11"))
	wantEncode(t, []int{3, 2, 3, 1}, []byte{0, 1, 2, 3}, fromText("110 10 111 0"))
	wantEncode(t, []int{4, 1, 4, 3, 0, 3, 3}, []byte{0, 1, 2, 3, 5, 6}, fromText("1110 0 1111 100 101 110"))
}

func TestEncodeOfOneCode(t *testing.T) {
	wantEncode(t, []int{1}, nil, nil)
	wantEncode(t, []int{1}, []byte{0}, []byte{0})
	wantEncode(t, []int{0, 0, 1}, slices.Repeat([]byte{2}, 9), []byte{0, 0})
}

func TestEncodeOfAllBytes(t *testing.T) {
	data := make([]byte, 256)
	text := ""
	for i := range data {
		data[i] = byte(i)
		for bit := 7; bit >= 0; bit-- {
			text += string(rune('0' + i>>bit&1))
		}
	}
	wantEncode(t, slices.Repeat([]int{8}, 256), data, fromText(text))
}

func TestEncodeRefusesBytesWithoutCodes(t *testing.T) {
	for _, data := range [][]byte{{2}, {0, 1, 2}, {2, 0, 1}, {4}, {255}, {0, 1, 3, 255}} {
		if got, e := huff.Encode(example(), data); e != api.ErrTable || len(got) != 0 {
			t.Errorf("Encode(%v) is %v, %v", data, got, e)
		}
	}
}

// P2.5

func TestDecode(t *testing.T) {
	wantDecode(t, example(), []byte{26}, 3, []byte{0, 1, 3}, api.OK)
	wantDecode(t, example(), []byte{26}, 4, []byte{0, 1, 3, 0}, api.OK)
	wantDecode(t, example(), []byte{26}, 6, []byte{0, 1, 3, 0, 0, 0}, api.OK)
	wantDecode(t, example(), nil, 0, nil, api.OK)
	wantDecode(t, chain(), fromText("11111111111 11111111110 0 1111111110 110"), 5, []byte{11, 10, 0, 9, 2}, api.OK)
	wantDecode(t, []int{1}, []byte{0}, 8, make([]byte, 8), api.OK)
	wantDecode(t, []int{1}, []byte{0}, 1, []byte{0}, api.OK)
	wantDecode(t, []int{0, 1}, []byte{0, 0}, 9, slices.Repeat([]byte{1}, 9), api.OK)
}

func TestDecodeOfTooFewBits(t *testing.T) {
	wantDecode(t, example(), nil, 1, nil, api.ErrBits)
	wantDecode(t, example(), []byte{26}, 7, nil, api.ErrBits)
	wantDecode(t, example(), []byte{255}, 5, nil, api.ErrBits)
	wantDecode(t, example(), []byte{0x80}, 8, nil, api.ErrBits) // the last code is cut
	wantDecode(t, chain(), []byte{255}, 1, nil, api.ErrBits)
	wantDecode(t, []int{1}, []byte{0}, 9, nil, api.ErrBits)
	wantDecode(t, example(), []byte{26}, 1<<16, nil, api.ErrBits)
}

func TestDecodeOfTooManyBytes(t *testing.T) {
	wantDecode(t, example(), []byte{26, 0}, 3, nil, api.ErrBits)
	wantDecode(t, example(), []byte{0}, 0, nil, api.ErrBits)
	wantDecode(t, example(), []byte{255, 0}, 4, nil, api.ErrBits)
	wantDecode(t, []int{1}, []byte{0, 0}, 8, nil, api.ErrBits)
	wantDecode(t, []int{1}, []byte{0, 0}, 9, make([]byte, 9), api.OK)
}

func TestDecodeOfBitsBehind(t *testing.T) {
	for bit := 5; bit < 8; bit++ {
		wantDecode(t, example(), []byte{26 | 1<<bit}, 3, nil, api.ErrBits)
	}
	wantDecode(t, example(), []byte{58}, 3, nil, api.ErrBits)
	wantDecode(t, []int{1}, []byte{128}, 7, nil, api.ErrBits)
}

func TestDecodeOfOneCodeThatIsNotZero(t *testing.T) {
	for bit := range 8 {
		wantDecode(t, []int{0, 1}, []byte{1 << bit}, 8, nil, api.ErrBits)
		wantDecode(t, []int{0, 1}, []byte{1 << bit, 0}, 16, nil, api.ErrBits)
	}
	wantDecode(t, []int{1}, []byte{255, 255, 255}, 1, nil, api.ErrBits)
}

func TestDecodeRefusesCounts(t *testing.T) {
	for _, n := range []int{-1, 1<<16 + 1, math.MinInt, math.MaxInt} {
		wantDecode(t, example(), []byte{26}, n, nil, api.ErrArg)
		wantDecode(t, example(), nil, n, nil, api.ErrArg)
	}
	most := make([]byte, 1<<16)
	wantDecode(t, []int{1}, make([]byte, 1<<13), 1<<16, most, api.OK)
	wantDecode(t, []int{1}, make([]byte, 1<<13), 1<<16+1, nil, api.ErrArg)
}

// decodeText is P2.5 told once more, over digits.
func decodeText(lengths []int, packed []byte, n int) ([]byte, api.Errno) {
	known := map[string]byte{}
	for b, code := range textCodes(lengths) {
		known[code] = b
	}
	text := ""
	for i := range 8 * len(packed) {
		text += string(rune('0' + packed[i/8]>>(i%8)&1))
	}
	var data []byte
	at := 0
	for range n {
		end := at + 1
		for ; end <= len(text); end++ {
			if _, ok := known[text[at:end]]; ok {
				break
			}
		}
		if end > len(text) {
			return nil, api.ErrBits
		}
		data = append(data, known[text[at:end]])
		at = end
	}
	if len(text)-at >= 8 || strings.Contains(text[at:], "1") {
		return nil, api.ErrBits
	}
	return data, api.OK
}

func TestDecodeOfAnyBytes(t *testing.T) {
	chance := rand.New(rand.NewSource(6))
	lists := [][]int{example(), chain(), {1}, {0, 0, 1}, {1, 1}, {2, 2, 2, 2}, {3, 3, 3, 3, 2, 0, 2}, slices.Repeat([]int{8}, 256)}
	well := 0
	for range 20000 {
		packed := make([]byte, chance.Intn(4))
		for i := range packed {
			packed[i] = byte(chance.Intn(256) & chance.Intn(256))
		}
		lengths := lists[chance.Intn(len(lists))]
		n := chance.Intn(12)
		want, e := decodeText(lengths, packed, n)
		wantDecode(t, lengths, packed, n, want, e)
		if e == api.OK {
			well++
		}
	}
	if well < 1000 {
		t.Errorf("only %d were of a form", well)
	}
}

// P2.6

func TestDecodeOfEncode(t *testing.T) {
	chance := rand.New(rand.NewSource(7))
	for range 400 {
		many := 1 + chance.Intn(256)
		steep := 1 + chance.Intn(40)
		data := make([]byte, 1+chance.Intn(1000))
		counts := make([]int, 256)
		for i := range data {
			data[i] = byte(min(int(chance.ExpFloat64()*float64(many)/float64(steep)), many-1))
			counts[data[i]]++
		}
		lengths := mustLengths(t, counts)
		text := ""
		codes := textCodes(lengths)
		for _, b := range data {
			text += codes[b]
		}
		packed := fromText(text)
		wantEncode(t, lengths, data, packed)
		wantDecode(t, lengths, packed, len(data), data, api.OK)
	}
}

// R4

func TestCodesLeaveWhatIsHandedIn(t *testing.T) {
	lengths := append(example(), 7, 7)
	data := []byte{0, 1, 3, 9, 9}
	packed, e := huff.Encode(lengths[:4], data[:3])
	if e != api.OK || !slices.Equal(data, []byte{0, 1, 3, 9, 9}) {
		t.Fatalf("Encode: %v, %v", data, e)
	}
	packed = append(packed, 9, 9)
	got, e := huff.Decode(lengths[:4], packed[:1], 3)
	if e != api.OK || !slices.Equal(packed, []byte{26, 9, 9}) || !slices.Equal(lengths, []int{1, 2, 0, 2, 7, 7}) {
		t.Fatalf("Decode: %v, %v, %v", packed, lengths, e)
	}
	clear(packed)
	if !slices.Equal(got, []byte{0, 1, 3}) {
		t.Errorf("the bytes are %v then", got)
	}
}
