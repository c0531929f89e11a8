package huff_test

import (
	"math"
	"math/rand"
	"slices"
	"testing"

	"kist/api"
	"kist/huff"
)

func mustLengths(t *testing.T, counts []int) []int {
	t.Helper()
	lengths, e := huff.Lengths(counts)
	if e != api.OK {
		t.Fatalf("Lengths(%v) is %v", counts, e)
	}
	return lengths
}

// pile is a thing of the tree, with the bytes that are part of it.
type pile struct {
	weight int
	bytes  []int
}

// treeLengths makes the tree of these counts as the document tells it, by searching a plain list.
func treeLengths(counts []int) []int {
	var piles []*pile // by rising number; nil, where it became part of another
	lengths := make([]int, len(counts))
	for b, count := range counts {
		if count > 0 {
			piles = append(piles, &pile{count, []int{b}})
		}
	}
	takeLeast := func() *pile {
		least := -1
		for i, p := range piles {
			if p != nil && (least < 0 || p.weight < piles[least].weight) {
				least = i
			}
		}
		if least < 0 {
			return nil
		}
		p := piles[least]
		piles[least] = nil
		return p
	}
	for {
		one := takeLeast()
		other := takeLeast()
		if other == nil {
			break
		}
		both := &pile{one.weight + other.weight, slices.Concat(one.bytes, other.bytes)}
		for _, b := range both.bytes {
			lengths[b]++
		}
		piles = append(piles, both)
	}
	for len(lengths) > 0 && lengths[len(lengths)-1] == 0 {
		lengths = lengths[:len(lengths)-1]
	}
	return lengths
}

// wantedLengths are those of P2.1, and how often counts were halved for them.
func wantedLengths(counts []int) ([]int, int) {
	counts = slices.Clone(counts)
	for halved := 0; ; halved++ {
		lengths := treeLengths(counts)
		if len(lengths) == 0 || slices.Max(lengths) <= 11 {
			return lengths, halved
		}
		for i, count := range counts {
			if count > 0 {
				counts[i] = count/2 + 1
			}
		}
	}
}

func wantLengths(t *testing.T, counts, want []int) {
	t.Helper()
	if got := mustLengths(t, counts); !slices.Equal(got, want) {
		t.Errorf("Lengths(%v) is %v, not %v", counts, got, want)
	}
}

// fibonacci are counts of which each but the first two is that of the two ahead: their tree is a chain.
func fibonacci(n int) []int {
	counts := make([]int, n)
	one, other := 1, 1
	for i := range counts {
		counts[i] = one
		one, other = other, one+other
	}
	return counts
}

// P2.1

func TestLengthsOfCounts(t *testing.T) {
	wantLengths(t, []int{2, 1, 0, 1}, []int{1, 2, 0, 2})
	wantLengths(t, []int{1, 1}, []int{1, 1})
	wantLengths(t, []int{1, math.MaxUint32}, []int{1, 1})
	wantLengths(t, []int{5, 4, 3, 2, 1}, []int{2, 2, 2, 3, 3})
	wantLengths(t, []int{0, 0, 9, 0, 1, 1, 0, 0}, []int{0, 0, 1, 0, 2, 2})
}

func TestLengthsOfOneCount(t *testing.T) {
	wantLengths(t, []int{7}, []int{1})
	wantLengths(t, []int{0, 7}, []int{0, 1})
	wantLengths(t, []int{0, 0, 1, 0, 0}, []int{0, 0, 1})
	all := make([]int, 256)
	all[255] = math.MaxUint32
	want := make([]int, 256)
	want[255] = 1
	wantLengths(t, all, want)
	first := make([]int, 256)
	first[0] = 1
	wantLengths(t, first, []int{1})
}

func TestLengthsOfLikeWeightsGoByNumber(t *testing.T) {
	// 1 and 1 are the least; their 2 stands behind the byte of the same weight
	wantLengths(t, []int{1, 1, 2}, []int{2, 2, 1})
	wantLengths(t, []int{2, 1, 1}, []int{1, 2, 2})
	// the 2 of both ones is numbered behind all twos of bytes, so these become one first
	wantLengths(t, []int{1, 1, 2, 2}, []int{2, 2, 2, 2})
	wantLengths(t, []int{1, 1, 1}, []int{2, 2, 1})
	wantLengths(t, []int{1, 1, 1, 1, 1}, []int{3, 3, 2, 2, 2})
	wantLengths(t, []int{2, 1, 2, 1, 3, 1}, []int{3, 3, 2, 3, 2, 3})
	wantLengths(t, []int{3, 3, 3, 1, 2, 1}, []int{2, 2, 2, 4, 3, 4})
}

func TestLengthsOfAllBytes(t *testing.T) {
	wantLengths(t, slices.Repeat([]int{1}, 256), slices.Repeat([]int{8}, 256))
	wantLengths(t, slices.Repeat([]int{math.MaxUint32}, 256), slices.Repeat([]int{8}, 256))
	wantLengths(t, slices.Repeat([]int{3}, 255), append(slices.Repeat([]int{8}, 254), 7))
}

func TestLengthsStayBelowTwelve(t *testing.T) {
	// twelve such counts are a chain of just 11; of thirteen one is 12 long, and they are halved
	chain := []int{11, 11, 10, 9, 8, 7, 6, 5, 4, 3, 2, 1}
	wantLengths(t, fibonacci(12), chain)
	// halved: 1 1 2 2 3 5 7 11 18 28 45 73 117
	wantLengths(t, fibonacci(13), []int{7, 7, 6, 6, 6, 5, 5, 4, 4, 3, 3, 2, 2})
	for n := 2; n <= 47; n++ { // the 47th is the last below 2^32
		counts := fibonacci(n)
		want, _ := wantedLengths(counts)
		wantLengths(t, counts, want)
		slices.Reverse(counts)
		want, _ = wantedLengths(counts)
		wantLengths(t, counts, want)
	}
}

func TestLengthsOfCountsThatRiseSteeply(t *testing.T) {
	counts := make([]int, 256)
	for i := range counts {
		counts[i] = 1 << (i % 32)
	}
	want, halved := wantedLengths(counts)
	if halved < 2 {
		t.Fatalf("halved %d times: they are to be halved several times", halved)
	}
	wantLengths(t, counts, want)
}

func TestLengthsAsTheTreeIsTold(t *testing.T) {
	chance := rand.New(rand.NewSource(1))
	often := 0
	for range 800 {
		counts := make([]int, 1+chance.Intn(256))
		top := []int{2, 4, 30, 1000, math.MaxUint32}[chance.Intn(5)]
		for i := range counts {
			switch chance.Intn(3) {
			case 0:
				counts[i] = chance.Intn(top)
			case 1:
				counts[i] = top >> chance.Intn(32)
			}
		}
		counts[chance.Intn(len(counts))] = top
		if len(counts)-count(counts, 0) < 2 {
			continue
		}
		want, halved := wantedLengths(counts)
		often += min(halved, 1)
		wantLengths(t, counts, want)
	}
	if often < 100 {
		t.Errorf("only %d of these counts were halved", often)
	}
}

func count(list []int, x int) int {
	n := 0
	for _, y := range list {
		if x == y {
			n++
		}
	}
	return n
}

func TestLengthsRefused(t *testing.T) {
	for _, counts := range [][]int{
		nil, {}, {0}, {0, 0, 0}, make([]int, 256),
		{-1}, {-1, 5}, {5, -1}, {5, 4, -1}, {math.MinInt, 1},
		{math.MaxUint32 + 1}, {1, math.MaxUint32 + 1}, {math.MaxInt, 1},
		make([]int, 257), slices.Repeat([]int{1}, 257), append(make([]int, 256), 1), append([]int{3, 4}, make([]int, 255)...),
	} {
		if lengths, e := huff.Lengths(counts); e != api.ErrArg || len(lengths) != 0 {
			t.Errorf("Lengths(%v) is %v, %v", counts, lengths, e)
		}
	}
}

// P2.7

func TestLengthsThatAreToldMayBe(t *testing.T) {
	for _, counts := range [][]int{{1}, {0, 9}, {1, 1}, {2, 1, 0, 1}, {1, 0, 0}, slices.Repeat([]int{5}, 256), fibonacci(13), fibonacci(47)} {
		if _, e := huff.PutTable(mustLengths(t, counts)); e != api.OK {
			t.Errorf("the lengths of %v are refused: %v", counts, e)
		}
	}
}

// leastBits is how few bits a code takes for counts: it is tried with every row of lengths that fill the codes.
func leastBits(counts []int, open int) int {
	if len(counts) == 0 {
		if open == 0 {
			return 0
		}
		return math.MaxInt32
	}
	least := math.MaxInt32
	for length := 1; length <= 11 && open > 0; length++ {
		if rest := open - 1<<(11-length); rest >= 0 {
			least = min(least, counts[0]*length+leastBits(counts[1:], rest))
		}
	}
	return least
}

func TestNoLengthsTakeFewerBits(t *testing.T) {
	chance := rand.New(rand.NewSource(2))
	for range 150 {
		counts := make([]int, 2+chance.Intn(4))
		for i := range counts {
			counts[i] = 1 + chance.Intn(300/len(counts))>>chance.Intn(6)
		}
		bits := 0
		for i, length := range mustLengths(t, counts) {
			bits += length * counts[i]
		}
		if want := leastBits(counts, 1<<11); bits != want {
			t.Errorf("%v: %d bits, not %d", counts, bits, want)
		}
	}
}

func TestNoByteThatStandsMoreOftenHasALongerCode(t *testing.T) {
	chance := rand.New(rand.NewSource(3))
	for range 300 {
		counts := make([]int, 256)
		bytes := 2 + chance.Intn(255)
		for left := 300; left > 0; {
			n := min(left, 1+chance.Intn(40))
			counts[chance.Intn(bytes)] += n
			left -= n
		}
		lengths := mustLengths(t, counts)
		for i, one := range lengths {
			for j, other := range lengths {
				if counts[i] > counts[j] && counts[j] > 0 && one > other {
					t.Fatalf("%v: byte %d has %d bits, byte %d has %d", counts, i, one, j, other)
				}
			}
		}
	}
}

// R4

func TestLengthsLeavesCounts(t *testing.T) {
	room := append(fibonacci(20), 0, 0, 9, 9)
	counts := room[:22]
	kept := slices.Clone(room)
	one := mustLengths(t, counts)
	if !slices.Equal(room, kept) {
		t.Errorf("the counts are %v then", room)
	}
	want := slices.Clone(one)
	clear(one)
	if two := mustLengths(t, counts); !slices.Equal(two, want) {
		t.Errorf("asked again: %v, not %v", two, want)
	}
}
