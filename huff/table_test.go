package huff_test

import (
	"math"
	"math/rand"
	"slices"
	"testing"

	"kist/api"
	"kist/bits"
	"kist/huff"
)

// row is a table of these bits: 8 for how many lengths there are, less 1, and 4 for each further number.
func row(count int, nibbles ...int) []byte {
	w := bits.NewWriter()
	w.Put(8, count)
	for _, n := range nibbles {
		w.Put(4, n)
	}
	return w.Bytes()
}

// gap is two codes with n zeros between.
func gap(n int) []int {
	lengths := make([]int, n+2)
	lengths[0], lengths[n+1] = 1, 1
	return lengths
}

func wantTable(t *testing.T, lengths []int, table []byte) {
	t.Helper()
	if got, e := huff.PutTable(lengths); e != api.OK || !slices.Equal(got, table) {
		t.Errorf("PutTable(%v) is %v, %v, not %v", lengths, got, e, table)
	}
	wantRead(t, table, lengths, len(table))
	wantRead(t, append(slices.Clone(table), 255, 7), lengths, len(table))
}

func wantRead(t *testing.T, data []byte, lengths []int, n int) {
	t.Helper()
	if got, many, e := huff.Table(data); e != api.OK || many != n || !slices.Equal(got, lengths) {
		t.Errorf("Table(%v) is %v, %d, %v, not %v, %d", data, got, many, e, lengths, n)
	}
}

func wantNoRead(t *testing.T, data []byte, want api.Errno) {
	t.Helper()
	if got, many, e := huff.Table(data); e != want || many != 0 || len(got) != 0 {
		t.Errorf("Table(%v) is %v, %d, %v, not %v", data, got, many, e, want)
	}
}

// P2.2, and that Table reads what it writes

func TestTablesOfLengths(t *testing.T) {
	wantTable(t, []int{1, 2, 0, 2}, []byte{3, 33, 0, 2})
	wantTable(t, []int{1, 1}, []byte{1, 0x11})
	wantTable(t, []int{1, 2, 2}, []byte{2, 0x21, 2})
	wantTable(t, []int{1, 2, 3, 4, 5, 6, 7, 8, 9, 10, 11, 11}, []byte{11, 0x21, 0x43, 0x65, 0x87, 0xa9, 0xbb})
	wantTable(t, slices.Repeat([]int{8}, 256), append([]byte{255}, slices.Repeat([]byte{0x88}, 128)...))
}

func TestTablesOfOneCode(t *testing.T) {
	wantTable(t, []int{1}, []byte{0, 1})
	wantTable(t, []int{0, 1}, row(1, 0, 0, 1))
	last := make([]int, 256)
	last[255] = 1
	wantTable(t, last, row(255, 0, 15, 0, 15, 0, 15, 0, 15, 0, 15, 0, 15, 0, 15, 0, 15, 0, 15, 0, 15, 0, 15, 0, 15, 0, 15, 0, 15, 0, 15, 0, 14, 1))
}

func TestOneCodeNeedNotBeTheLast(t *testing.T) {
	// 'or if there is just one code, of the length 1': nothing more is asked of such a list
	wantTable(t, []int{1, 0}, row(1, 1, 0, 0))
	wantTable(t, []int{0, 1, 0, 0}, row(3, 0, 0, 1, 0, 1))
}

func TestTablesOfZeros(t *testing.T) {
	wantTable(t, gap(1), row(2, 1, 0, 0, 1))
	wantTable(t, gap(2), row(3, 1, 0, 1, 1))
	wantTable(t, gap(15), row(16, 1, 0, 14, 1))
	wantTable(t, gap(16), row(17, 1, 0, 15, 1))
	wantTable(t, gap(17), row(18, 1, 0, 15, 0, 0, 1))
	wantTable(t, gap(32), row(33, 1, 0, 15, 0, 15, 1))
	wantTable(t, gap(33), row(34, 1, 0, 15, 0, 15, 0, 0, 1))
	wantTable(t, []int{0, 1, 0, 0, 1}, row(4, 0, 0, 1, 0, 1, 1))
	wantTable(t, gap(254), row(255, 1, 0, 15, 0, 15, 0, 15, 0, 15, 0, 15, 0, 15, 0, 15, 0, 15, 0, 15, 0, 15, 0, 15, 0, 15, 0, 15, 0, 15, 0, 15, 0, 13, 1))
}

// noLengths are lists that may not be.
func noLengths() [][]int {
	return [][]int{
		nil, {}, {0}, {0, 0},
		{2}, {0, 11}, {12}, {-1}, {math.MinInt}, {math.MaxInt},
		{1, 1, 0}, {1, 2, 2, 0, 0}, {2, 0}, {0, 2, 0},
		{1, 1, 1}, {1, 2}, {2, 2, 2}, {1, 2, 3}, {1, 3, 3}, {2, 2, 2, 2, 11}, {1, 2, 3, 4, 5, 6, 7, 8, 9, 10, 11},
		{1, 1, -1}, {1, 1, 12}, {1, 12}, {1, -1}, {-1, 1}, {12, 1}, {1, math.MinInt}, {1, 64}, {1, 2, 3, 4, 5, 6, 7, 8, 9, 10, 12, 12, 11}, {1, 2, 3, 4, 5, 6, 7, 8, 9, 10, 11, 12, 12},
		slices.Repeat([]int{8}, 255), append(slices.Repeat([]int{8}, 255), 7), append(slices.Repeat([]int{8}, 255), 0),
		slices.Repeat([]int{8}, 257), append(slices.Repeat([]int{0}, 255), 1, 1), append(make([]int, 256), 1), append([]int{1}, make([]int, 256)...), append([]int{1, 1}, make([]int, 255)...),
	}
}

func TestLengthsThatMayNotBeAreRefused(t *testing.T) {
	for _, lengths := range noLengths() {
		if table, e := huff.PutTable(lengths); e != api.ErrTable || len(table) != 0 {
			t.Errorf("PutTable(%v) is %v, %v", lengths, table, e)
		}
		for _, data := range [][]byte{nil, {0}, {0, 0, 1}, {200}} {
			if packed, e := huff.Encode(lengths, data); e != api.ErrTable || len(packed) != 0 {
				t.Errorf("Encode(%v, %v) is %v, %v", lengths, data, packed, e)
			}
			for _, n := range []int{0, 1, -1, 1<<16 + 1} { // also where n may not be
				if got, e := huff.Decode(lengths, data, n); e != api.ErrTable || len(got) != 0 {
					t.Errorf("Decode(%v, %v, %d) is %v, %v", lengths, data, n, got, e)
				}
			}
		}
	}
}

// P2.3

func TestTablesThatAreCut(t *testing.T) {
	for _, lengths := range [][]int{{1}, {0, 1}, {1, 2, 0, 2}, gap(1), gap(17), gap(40), slices.Repeat([]int{8}, 256)} {
		table, e := huff.PutTable(lengths)
		if e != api.OK {
			t.Fatalf("PutTable(%v) is %v", lengths, e)
		}
		for n := range table {
			wantNoRead(t, table[:n], api.ErrBits)
		}
	}
	wantNoRead(t, []byte{255}, api.ErrBits)
	wantNoRead(t, []byte{2, 0x01}, api.ErrBits)         // a zero whose number is not there
	wantNoRead(t, []byte{255, 0xff, 0xff}, api.ErrBits) // lengths that may not be, but cut first
}

func TestTablesWithMoreZerosThanAreLeft(t *testing.T) {
	wantNoRead(t, row(0, 0, 1), api.ErrTable)
	wantNoRead(t, row(3, 1, 0, 3), api.ErrTable)
	wantNoRead(t, row(3, 1, 0, 15), api.ErrTable)
	wantNoRead(t, row(15, 0, 15), api.ErrTable)          // just as many as there are: no code
	wantNoRead(t, row(16, 0, 15, 0, 1, 1), api.ErrTable) // one more behind 16
}

func TestTablesWithZerosBehindFewZeros(t *testing.T) {
	wantNoRead(t, row(3, 1, 0, 0, 0, 0, 1), api.ErrTable)
	wantNoRead(t, row(17, 1, 0, 14, 0, 0, 1), api.ErrTable)
	wantNoRead(t, row(34, 1, 0, 15, 0, 14, 0, 1, 1), api.ErrTable)
	wantNoRead(t, row(200, 1, 0, 14, 0, 15), api.ErrTable) // ahead of the bits that are not there
	wantNoRead(t, row(255, 1, 0, 3, 0), api.ErrBits)       // asked only once the number is read
	wantRead(t, row(34, 1, 0, 15, 0, 15, 0, 0, 1), gap(33), 5)
	wantRead(t, row(4, 1, 0, 0, 2, 0, 0, 2), []int{1, 0, 2, 0, 2}, 5) // a length between
}

func TestTablesWithBitsBehind(t *testing.T) {
	for b := 1; b < 16; b++ {
		wantNoRead(t, []byte{3, 33, 0, byte(2 | b<<4)}, api.ErrTable)
		wantNoRead(t, []byte{0, byte(1 | b<<4), 0}, api.ErrTable)
	}
	wantRead(t, []byte{3, 33, 0, 2, 255}, []int{1, 2, 0, 2}, 4)
	wantRead(t, []byte{1, 0x11, 255}, []int{1, 1}, 2)
}

func TestTablesOfLengthsThatMayNotBe(t *testing.T) {
	for _, data := range [][]byte{
		row(0, 0, 0), row(0, 2), row(0, 15), row(1, 1, 2), row(2, 1, 1, 1), row(1, 1, 12), row(2, 1, 1, 13), row(2, 1, 1, 0, 0),
		row(3, 1, 2, 0, 0, 3), row(255, slices.Repeat([]int{0, 15}, 16)...), row(3, 1, 2, 2, 0, 0), row(0, 3),
	} {
		wantNoRead(t, data, api.ErrTable)
	}
}

// readTable is P2.3 told once more, over a list of nibbles.
func readTable(data []byte) ([]int, int, api.Errno) {
	if len(data) == 0 {
		return nil, 0, api.ErrBits
	}
	var nibbles []int
	for _, b := range data[1:] {
		nibbles = append(nibbles, int(b&15), int(b>>4))
	}
	many := int(data[0]) + 1
	var lengths []int
	at, few := 0, false
	for len(lengths) < many {
		if at == len(nibbles) {
			return nil, 0, api.ErrBits
		}
		if nibbles[at] != 0 {
			lengths, at, few = append(lengths, nibbles[at]), at+1, false
			continue
		}
		if at+1 == len(nibbles) {
			return nil, 0, api.ErrBits
		}
		zeros := nibbles[at+1] + 1
		if zeros > many-len(lengths) || few {
			return nil, 0, api.ErrTable
		}
		lengths, at, few = append(lengths, make([]int, zeros)...), at+2, zeros < 16
	}
	if at%2 == 1 && nibbles[at] != 0 {
		return nil, 0, api.ErrTable
	}
	sum, codes := 0, 0
	for _, length := range lengths {
		if length > 11 {
			return nil, 0, api.ErrTable
		}
		if length > 0 {
			sum, codes = sum+2048>>length, codes+1
		}
	}
	if codes == 1 && sum != 1024 || codes != 1 && (sum != 2048 || lengths[many-1] == 0) {
		return nil, 0, api.ErrTable
	}
	return lengths, 1 + (at+1)/2, api.OK
}

func TestTableOfAnyBytes(t *testing.T) {
	chance := rand.New(rand.NewSource(4))
	told := map[api.Errno]int{}
	for range 200000 {
		data := make([]byte, chance.Intn(7))
		for i := range data {
			data[i] = byte(chance.Intn(3) | chance.Intn(3)<<4)
			if chance.Intn(8) == 0 {
				data[i] = byte(chance.Intn(256))
			}
		}
		lengths, many, e := huff.Table(data)
		wantLengths, wantMany, wantE := readTable(data)
		told[wantE]++
		if !slices.Equal(lengths, wantLengths) || many != wantMany || e != wantE {
			t.Fatalf("Table(%v) is %v, %d, %v, not %v, %d, %v", data, lengths, many, e, wantLengths, wantMany, wantE)
		}
	}
	if len(told) != 3 || told[api.OK] < 1000 {
		t.Errorf("the bytes told only %v", told)
	}
}

// P2.6

func TestTableOfPutTable(t *testing.T) {
	chance := rand.New(rand.NewSource(5))
	for range 2000 {
		counts := make([]int, 1+chance.Intn(256))
		for i := range counts {
			if chance.Intn(6) == 0 {
				counts[i] = chance.Intn(1 << chance.Intn(20))
			}
		}
		counts[chance.Intn(len(counts))]++
		lengths := mustLengths(t, counts)
		table, e := huff.PutTable(lengths)
		if e != api.OK {
			t.Fatalf("PutTable(%v) is %v", lengths, e)
		}
		wantRead(t, append(slices.Clip(table), 9), lengths, len(table))
	}
}

// R4

func TestTablesLeaveWhatIsHandedIn(t *testing.T) {
	room := []int{1, 2, 0, 2, 7, 7}
	table, e := huff.PutTable(room[:4])
	if e != api.OK || !slices.Equal(room, []int{1, 2, 0, 2, 7, 7}) {
		t.Fatalf("PutTable: %v, %v", room, e)
	}
	data := append(table, 9, 9)
	lengths, _, e := huff.Table(data[:4])
	if e != api.OK || !slices.Equal(data, []byte{3, 33, 0, 2, 9, 9}) {
		t.Fatalf("Table: %v, %v", data, e)
	}
	clear(data)
	if !slices.Equal(lengths, []int{1, 2, 0, 2}) {
		t.Errorf("the lengths are %v then", lengths)
	}
}
