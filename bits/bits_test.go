package bits_test

import (
	"math"
	"slices"
	"testing"

	"kist/api"
	"kist/bits"
)

// taker is what a Reader and a Back have in common.
type taker interface {
	Take(n int) (int, api.Errno)
	Left() int
}

func mustPut(t *testing.T, w *bits.Writer, n, value int) {
	t.Helper()
	if e := w.Put(n, value); e != api.OK {
		t.Fatalf("Put(%d, %d) is %v", n, value, e)
	}
}

func wantRow(t *testing.T, w *bits.Writer, size int, row, marked []byte) {
	t.Helper()
	if w.Len() != size {
		t.Errorf("Len is %d, not %d", w.Len(), size)
	}
	if got := w.Bytes(); !slices.Equal(got, row) {
		t.Errorf("Bytes is %v, not %v", got, row)
	}
	if got := w.Marked(); !slices.Equal(got, marked) {
		t.Errorf("Marked is %v, not %v", got, marked)
	}
}

func wantTake(t *testing.T, from taker, n, value int, e api.Errno) {
	t.Helper()
	if got, err := from.Take(n); got != value || err != e {
		t.Errorf("Take(%d) is %d, %v, not %d, %v", n, got, err, value, e)
	}
}

func wantLeft(t *testing.T, from taker, left int) {
	t.Helper()
	if got := from.Left(); got != left {
		t.Errorf("Left is %d, not %d", got, left)
	}
}

func mustBack(t *testing.T, data []byte) *bits.Back {
	t.Helper()
	b, e := bits.NewBack(data)
	if e != api.OK {
		t.Fatalf("NewBack(%v) is %v", data, e)
	}
	return b
}

// wrongCounts are those that may neither be put nor taken.
var wrongCounts = []int{-1, -32, 33, 64, math.MinInt, math.MaxInt}

// P1.1

func TestWriterIsEmptyAtFirst(t *testing.T) {
	wantRow(t, bits.NewWriter(), 0, nil, []byte{1})
}

func TestPutAddsLowestBitFirst(t *testing.T) {
	w := bits.NewWriter()
	mustPut(t, w, 3, 5)
	mustPut(t, w, 6, 33)
	wantRow(t, w, 9, []byte{13, 1}, []byte{13, 3})
	mustPut(t, w, 7, 0)
	wantRow(t, w, 16, []byte{13, 1}, []byte{13, 1, 1})
	mustPut(t, w, 32, 0x80000001)
	wantRow(t, w, 48, []byte{13, 1, 1, 0, 0, 128}, []byte{13, 1, 1, 0, 0, 128, 1})
}

func TestPutOfNoBitsAddsNone(t *testing.T) {
	w := bits.NewWriter()
	mustPut(t, w, 0, 0)
	wantRow(t, w, 0, nil, []byte{1})
	mustPut(t, w, 8, 200)
	mustPut(t, w, 0, 0)
	wantRow(t, w, 8, []byte{200}, []byte{200, 1})
}

func TestPutTakesLeastAndGreatestOfEachCount(t *testing.T) {
	for n := range 33 {
		w := bits.NewWriter()
		mustPut(t, w, n, 0)
		if got := w.Bytes(); w.Len() != n || !slices.Equal(got, make([]byte, (n+7)/8)) {
			t.Errorf("Put(%d, 0): %d bits, %v", n, w.Len(), got)
		}
		w = bits.NewWriter()
		mustPut(t, w, n, 1<<n-1)
		ones := slices.Repeat([]byte{255}, n/8)
		if n%8 != 0 {
			ones = append(ones, byte(1<<(n%8)-1))
		}
		if got := w.Bytes(); w.Len() != n || !slices.Equal(got, ones) {
			t.Errorf("Put(%d, %d): %d bits, %v", n, 1<<n-1, w.Len(), got)
		}
	}
}

func TestPutRefusesAndChangesNothing(t *testing.T) {
	w := bits.NewWriter()
	mustPut(t, w, 3, 5)
	refuse := func(n, value int) {
		t.Helper()
		if e := w.Put(n, value); e != api.ErrArg {
			t.Errorf("Put(%d, %d) is %v", n, value, e)
		}
		wantRow(t, w, 3, []byte{5}, []byte{13})
	}
	for _, n := range wrongCounts {
		refuse(n, 0)
		refuse(n, 1)
		refuse(n, -1)
	}
	for n := range 33 {
		refuse(n, 1<<n)
		refuse(n, 1<<n+1)
		refuse(n, -1)
		refuse(n, math.MinInt)
		refuse(n, math.MaxInt)
	}
	mustPut(t, w, 6, 33)
	wantRow(t, w, 9, []byte{13, 1}, []byte{13, 3})
}

func TestWriterGoesOnAsIfNotAsked(t *testing.T) {
	asked, quiet := bits.NewWriter(), bits.NewWriter()
	for i := range 200 {
		mustPut(t, asked, i%33, 1<<(i%33)-1)
		mustPut(t, quiet, i%33, 1<<(i%33)-1)
		mustPut(t, asked, 1, 0)
		mustPut(t, quiet, 1, 0)
		asked.Len()
		asked.Bytes()
		asked.Marked()
		asked.Bytes()
	}
	wantRow(t, asked, quiet.Len(), quiet.Bytes(), quiet.Marked())
}

// P1.2

func TestReaderTakesFromTheFirstBit(t *testing.T) {
	r := bits.NewReader([]byte{13, 1})
	wantLeft(t, r, 16)
	wantTake(t, r, 3, 5, api.OK)
	wantLeft(t, r, 13)
	wantTake(t, r, 6, 33, api.OK)
	wantLeft(t, r, 7)
	wantTake(t, r, 8, 0, api.ErrBits)
	wantTake(t, r, 7, 0, api.OK)
	wantLeft(t, r, 0)
}

func TestReaderTakesNoneAndMost(t *testing.T) {
	r := bits.NewReader([]byte{1, 255, 255, 255, 255, 1, 0, 0, 128})
	wantTake(t, r, 0, 0, api.OK)
	wantLeft(t, r, 72)
	wantTake(t, r, 8, 1, api.OK)
	wantTake(t, r, 32, 1<<32-1, api.OK)
	wantTake(t, r, 32, 0x80000001, api.OK)
	wantTake(t, r, 0, 0, api.OK)
	wantTake(t, r, 1, 0, api.ErrBits)
}

func TestReaderOfNoBytes(t *testing.T) {
	for _, data := range [][]byte{nil, {}} {
		r := bits.NewReader(data)
		wantLeft(t, r, 0)
		wantTake(t, r, 0, 0, api.OK)
		wantTake(t, r, 1, 0, api.ErrBits)
		wantTake(t, r, 32, 0, api.ErrBits)
		wantTake(t, r, 33, 0, api.ErrArg)
	}
}

func TestReaderRefusesAndTakesNothing(t *testing.T) {
	r := bits.NewReader([]byte{13, 1})
	wantTake(t, r, 3, 5, api.OK)
	for _, n := range wrongCounts {
		wantTake(t, r, n, 0, api.ErrArg)
		wantLeft(t, r, 13)
	}
	for n := 14; n <= 32; n++ {
		wantTake(t, r, n, 0, api.ErrBits)
		wantLeft(t, r, 13)
	}
	wantTake(t, r, 13, 33, api.OK)
	wantLeft(t, r, 0)
}

// P1.3

func TestBackTakesFromTheMark(t *testing.T) {
	b := mustBack(t, []byte{13, 3})
	wantLeft(t, b, 9)
	wantTake(t, b, 6, 33, api.OK)
	wantLeft(t, b, 3)
	wantTake(t, b, 3, 5, api.OK)
	wantLeft(t, b, 0)
	wantTake(t, b, 1, 0, api.ErrBits)
	wantTake(t, b, 0, 0, api.OK)
}

func TestBackTakesNoneAndMost(t *testing.T) {
	b := mustBack(t, []byte{1, 0, 0, 128, 255, 255, 255, 255, 1})
	wantLeft(t, b, 64)
	wantTake(t, b, 0, 0, api.OK)
	wantTake(t, b, 32, 1<<32-1, api.OK)
	wantTake(t, b, 32, 0x80000001, api.OK)
	wantLeft(t, b, 0)
}

func TestBackFindsTheLastBitOne(t *testing.T) {
	for last := 1; last < 256; last++ {
		high := 7
		for last>>high == 0 {
			high--
		}
		b := mustBack(t, []byte{byte(last)})
		wantLeft(t, b, high)
		wantTake(t, b, high, last-1<<high, api.OK)
		wantLeft(t, mustBack(t, []byte{0, 255, byte(last)}), 16+high)
	}
}

func TestBackRefusesBytesWithoutMark(t *testing.T) {
	for _, data := range [][]byte{nil, {}, {0}, {255, 0}, {1, 2, 3, 0}, {0, 0}} {
		if b, e := bits.NewBack(data); b != nil || e != api.ErrBits {
			t.Errorf("NewBack(%v) is %v, %v", data, b, e)
		}
	}
}

func TestBackRefusesAndTakesNothing(t *testing.T) {
	b := mustBack(t, []byte{13, 3})
	wantTake(t, b, 6, 33, api.OK)
	for _, n := range wrongCounts {
		wantTake(t, b, n, 0, api.ErrArg)
		wantLeft(t, b, 3)
	}
	for n := 4; n <= 32; n++ {
		wantTake(t, b, n, 0, api.ErrBits)
		wantLeft(t, b, 3)
	}
	wantTake(t, b, 3, 5, api.OK)
}

// P1.5

type piece struct{ n, value int }

// somePieces are many that look as if thrown together, the same ones for each seed.
func somePieces(seed uint64, many int) []piece {
	var l []piece
	for range many {
		seed = seed*6364136223846793005 + 1442695040888963407
		n := int(seed >> 33 % 33)
		l = append(l, piece{n, int(seed >> 20 & (1<<n - 1))})
	}
	return l
}

func TestWhatIsPutIsTakenAgain(t *testing.T) {
	for seed := range uint64(200) {
		l := somePieces(seed, int(seed))
		w := bits.NewWriter()
		for _, p := range l {
			mustPut(t, w, p.n, p.value)
		}
		r := bits.NewReader(w.Bytes())
		for _, p := range l {
			wantTake(t, r, p.n, p.value, api.OK)
		}
		wantLeft(t, r, 8*len(w.Bytes())-w.Len())
		b := mustBack(t, w.Marked())
		wantLeft(t, b, w.Len())
		for _, p := range slices.Backward(l) {
			wantTake(t, b, p.n, p.value, api.OK)
		}
		wantLeft(t, b, 0)
	}
}

// R4

func TestReadersKeepNothingOfTheirData(t *testing.T) {
	data := []byte{13, 3, 77, 78}
	handed := data[:2]
	r, b := bits.NewReader(handed), mustBack(t, handed)
	wantLeft(t, r, 16)
	wantLeft(t, b, 9)
	clear(data)
	wantTake(t, r, 3, 5, api.OK)
	wantTake(t, r, 6, 33, api.OK)
	wantTake(t, b, 6, 33, api.OK)
	wantTake(t, b, 3, 5, api.OK)
}

func TestReadersChangeNothingOfTheirData(t *testing.T) {
	data := []byte{13, 3, 77, 78}
	handed := data[:2]
	r, b := bits.NewReader(handed), mustBack(t, handed)
	for range 9 {
		r.Take(1)
		b.Take(1)
	}
	if !slices.Equal(data, []byte{13, 3, 77, 78}) {
		t.Error(data)
	}
}

func TestWriterHandsOutNewMemory(t *testing.T) {
	w := bits.NewWriter()
	for range 5 {
		mustPut(t, w, 9, 257)
		size, row, marked := w.Len(), w.Bytes(), w.Marked()
		keptRow, keptMarked := slices.Clone(row), slices.Clone(marked)
		for _, handed := range [][]byte{w.Bytes(), w.Marked()} {
			spare := handed[:cap(handed)]
			for i := range spare {
				spare[i] = 170
			}
		}
		if !slices.Equal(row, keptRow) || !slices.Equal(marked, keptMarked) {
			t.Error("two answers share memory")
		}
		wantRow(t, w, size, keptRow, keptMarked)
	}
	before := w.Bytes()
	kept := slices.Clone(before)
	mustPut(t, w, 32, 1<<32-1)
	if !slices.Equal(before, kept) {
		t.Error("an answer is changed by a Put")
	}
}

func TestTwoObjectsAreApart(t *testing.T) {
	one, other := bits.NewWriter(), bits.NewWriter()
	mustPut(t, one, 8, 9)
	wantRow(t, other, 0, nil, []byte{1})
	data := []byte{13, 3}
	r, s := bits.NewReader(data), bits.NewReader(data)
	wantTake(t, r, 16, 781, api.OK)
	wantTake(t, s, 16, 781, api.OK)
}
