package bits_test

import (
	"math"
	"slices"
	"testing"

	"kist/api"
	"kist/bits"
)

// shortForms are numbers at the edges of each count of bytes, as the document writes them.
var shortForms = []struct {
	n    int
	form []byte
}{
	{0, []byte{0}},
	{1, []byte{1}},
	{127, []byte{127}},
	{128, []byte{128, 1}},
	{300, []byte{172, 2}},
	{1<<14 - 1, []byte{255, 127}},
	{1 << 14, []byte{128, 128, 1}},
	{1<<21 - 1, []byte{255, 255, 127}},
	{1 << 21, []byte{128, 128, 128, 1}},
	{1<<28 - 1, []byte{255, 255, 255, 127}},
	{1 << 28, []byte{128, 128, 128, 128, 1}},
	{1<<32 - 2, []byte{254, 255, 255, 255, 15}},
	{1<<32 - 1, []byte{255, 255, 255, 255, 15}},
}

func wantNum(t *testing.T, data []byte, n, many int, e api.Errno) {
	t.Helper()
	if gotN, gotMany, err := bits.Num(data); gotN != n || gotMany != many || err != e {
		t.Errorf("Num(%v) is %d, %d, %v, not %d, %d, %v", data, gotN, gotMany, err, n, many, e)
	}
}

// P1.4

func TestPutNumWritesTheShortForm(t *testing.T) {
	for _, x := range shortForms {
		if got, e := bits.PutNum(nil, x.n); e != api.OK || !slices.Equal(got, x.form) {
			t.Errorf("PutNum(none, %d) is %v, %v", x.n, got, e)
		}
		want := append([]byte{0, 128}, x.form...)
		if got, e := bits.PutNum([]byte{0, 128}, x.n); e != api.OK || !slices.Equal(got, want) {
			t.Errorf("PutNum(0 128, %d) is %v, %v", x.n, got, e)
		}
	}
}

func TestPutNumRefusesWithOut(t *testing.T) {
	for _, n := range []int{-1, -128, 1 << 32, 1<<32 + 1, 1 << 35, math.MinInt, math.MaxInt} {
		for _, out := range [][]byte{nil, {}, {0}, {7, 8, 9}} {
			if got, e := bits.PutNum(out, n); e != api.ErrArg || !slices.Equal(got, out) {
				t.Errorf("PutNum(%v, %d) is %v, %v", out, n, got, e)
			}
		}
	}
}

func TestNumReadsTheShortForm(t *testing.T) {
	for _, x := range shortForms {
		wantNum(t, x.form, x.n, len(x.form), api.OK)
		for _, behind := range []byte{0, 1, 127, 128, 255} {
			wantNum(t, append(slices.Clone(x.form), behind, behind), x.n, len(x.form), api.OK)
		}
	}
}

func TestNumRefusesWhatIsCut(t *testing.T) {
	wantNum(t, nil, 0, 0, api.ErrBits)
	wantNum(t, []byte{}, 0, 0, api.ErrBits)
	for _, x := range shortForms {
		for many := range x.form {
			wantNum(t, x.form[:many], 0, 0, api.ErrBits)
		}
	}
}

func TestNumRefusesWhatIsTooGreat(t *testing.T) {
	for _, data := range [][]byte{
		{128, 128, 128, 128, 16},
		{255, 255, 255, 255, 16},
		{255, 255, 255, 255, 31},
		{255, 255, 255, 255, 127},
		{128, 128, 128, 128, 128, 1},
		{255, 255, 255, 255, 143, 1},
		{129, 128, 128, 128, 128, 128, 128, 128, 128, 2},
		{255, 255, 255, 255, 255, 255, 255, 255, 255, 127},
	} {
		wantNum(t, data, 0, 0, api.ErrBits)
	}
	wantNum(t, slices.Repeat([]byte{128}, 100000), 0, 0, api.ErrBits)
}

func TestNumRefusesWhatIsNotTheShortest(t *testing.T) {
	for _, x := range shortForms {
		padded := slices.Clone(x.form)
		for range 6 {
			padded[len(padded)-1] |= 128
			padded = append(padded, 0)
			wantNum(t, padded, 0, 0, api.ErrBits)
		}
	}
}

func TestNumOfAllPairs(t *testing.T) {
	for first := range 256 {
		for second := range 256 {
			data := []byte{byte(first), byte(second)}
			switch {
			case first < 128:
				wantNum(t, data, first, 1, api.OK)
			case second == 0 || second >= 128:
				wantNum(t, data, 0, 0, api.ErrBits)
			default:
				wantNum(t, data, first-128+128*second, 2, api.OK)
			}
		}
	}
}

// P1.5

func TestNumOfPutNumIsTheNumber(t *testing.T) {
	var out []byte
	var numbers []int
	for _, p := range somePieces(5, 3000) {
		grown, e := bits.PutNum(out, p.value)
		if e != api.OK {
			t.Fatal(p.value, e)
		}
		out, numbers = grown, append(numbers, p.value)
	}
	for _, want := range numbers {
		n, many, e := bits.Num(out)
		if n != want || e != api.OK {
			t.Fatal(n, many, e, want)
		}
		out = out[many:]
	}
	if len(out) != 0 {
		t.Error(out)
	}
}

// R4

func TestPutNumLeavesOutAndItsSpareRoom(t *testing.T) {
	room := []byte{9, 77, 77, 77, 77, 77, 77}
	kept := slices.Clone(room)
	for _, n := range []int{0, 300, 1<<32 - 1, -1, 1 << 32} {
		got, _ := bits.PutNum(room[:1], n)
		if !slices.Equal(room, kept) {
			t.Fatalf("PutNum of %d writes into spare room: %v", n, room)
		}
		spare := got[:cap(got)]
		for i := range spare {
			spare[i] = 170
		}
		if !slices.Equal(room, kept) {
			t.Fatalf("what PutNum of %d answers shares memory with out: %v", n, room)
		}
	}
}

func TestPutNumTwiceBehindTheSame(t *testing.T) {
	out, _ := bits.PutNum(nil, 5)
	one, _ := bits.PutNum(out, 6)
	other, _ := bits.PutNum(out, 7)
	if !slices.Equal(one, []byte{5, 6}) || !slices.Equal(other, []byte{5, 7}) {
		t.Error(one, other)
	}
}

func TestNumLeavesItsData(t *testing.T) {
	data := []byte{172, 2, 9, 9}
	wantNum(t, data[:2], 300, 2, api.OK)
	wantNum(t, data[:1], 0, 0, api.ErrBits)
	if !slices.Equal(data, []byte{172, 2, 9, 9}) {
		t.Error(data)
	}
}
