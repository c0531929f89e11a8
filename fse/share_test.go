package fse_test

import (
	"math"
	"math/rand"
	"slices"
	"testing"

	"kist/api"
	"kist/fse"
)

func mustShare(t *testing.T, counts []int, log int) []int {
	t.Helper()
	share, e := fse.Share(counts, log)
	if e != api.OK {
		t.Fatalf("Share(%v, %d) is %v", counts, log, e)
	}
	return share
}

func wantShare(t *testing.T, counts []int, log int, want []int) {
	t.Helper()
	if got, e := fse.Share(counts, log); e != api.OK || !slices.Equal(got, want) {
		t.Errorf("Share(%v, %d) is %v, %v, not %v", counts, log, got, e, want)
	}
}

func wantNoShare(t *testing.T, counts []int, log int) {
	t.Helper()
	if got, e := fse.Share(counts, log); e != api.ErrArg || len(got) != 0 {
		t.Errorf("Share(%v, %d) is %v, %v", counts, log, got, e)
	}
}

// join is all lists, one behind the other.
func join(lists ...[]int) []int { return slices.Concat(lists...) }

func same(n, many int) []int { return slices.Repeat([]int{n}, many) }

var wrongLogs = []int{math.MinInt, -5, -1, 0, 1, 4, 10, 11, 64, 256 + 5, math.MaxInt}

// P3.1

func TestShareOfCounts(t *testing.T) {
	wantShare(t, []int{3, 1, 0, 4}, 5, []int{12, 4, 0, 16})
	wantShare(t, []int{3, 1, 0, 4}, 9, []int{192, 64, 0, 256})
	wantShare(t, []int{7}, 5, []int{32})
	wantShare(t, []int{1, 1}, 5, []int{16, 16})
	wantShare(t, []int{1, 1}, 6, []int{32, 32})
	wantShare(t, []int{16, 15, 1}, 5, []int{16, 15, 1})
	wantShare(t, same(9, 16), 5, same(2, 16))
	wantShare(t, same(1, 64), 7, same(2, 64))
	wantShare(t, same(5, 64), 9, same(8, 64))
}

func TestShareEndsWithTheLastThatStands(t *testing.T) {
	wantShare(t, []int{0, 7, 0}, 9, []int{0, 512})
	wantShare(t, []int{1, 0, 0, 1, 0, 0, 0}, 5, []int{16, 0, 0, 16})
	wantShare(t, join(make([]int, 63), []int{2}), 8, join(make([]int, 63), []int{256}))
	wantShare(t, join([]int{2}, make([]int, 63)), 8, []int{256})
}

func TestShareIsAtLeastOneAndTheGreatestGives(t *testing.T) {
	wantShare(t, []int{1000, 1, 1}, 5, []int{30, 1, 1})
	wantShare(t, []int{1, 1, 1000}, 5, []int{1, 1, 30})
	wantShare(t, []int{1, 0, math.MaxUint32}, 9, []int{1, 0, 511})
	// 15 15 and 14 times 1 are 44: twelve too many, the first of the two gives first
	wantShare(t, join([]int{1000, 1000}, same(1, 14)), 5, join([]int{9, 9}, same(1, 14)))
	// 15 15 and 13 times 1 are 43: eleven too many
	wantShare(t, join([]int{1000}, same(1, 13), []int{1000}), 5, join([]int{9}, same(1, 13), []int{10}))
	// 10 10 10 and 6 times 1 are 36
	wantShare(t, join(same(1, 6), same(1000, 3)), 5, join(same(1, 6), []int{8, 9, 9}))
}

func TestShareThatIsTooLittleGoesToTheGreatest(t *testing.T) {
	wantShare(t, []int{1, 1, 1}, 5, []int{12, 10, 10})                        // 10 10 10: the first, and then it is the greatest
	wantShare(t, []int{1, 2, 2}, 5, []int{6, 14, 12})                         // 6 12 12
	wantShare(t, []int{0, 1, 2, 0, 2}, 5, []int{0, 6, 14, 0, 12})             // the same, with some that do not stand
	wantShare(t, []int{5, 5, 6, 5}, 6, []int{15, 15, 19, 15})                 // 15 15 18 15
	wantShare(t, join([]int{10}, same(3, 8)), 5, join([]int{16}, same(2, 8))) // 9 and 8 times 2
}

func TestShareOfGreatCounts(t *testing.T) {
	wantShare(t, same(math.MaxUint32, 64), 9, same(8, 64))
	wantShare(t, []int{math.MaxUint32}, 9, []int{512})
	wantShare(t, []int{math.MaxUint32, math.MaxUint32 - 1}, 9, []int{257, 255})
	wantShare(t, join(same(math.MaxUint32, 63), []int{1}), 9, join([]int{15}, same(8, 62), []int{1}))
}

func TestShareRefusesLogs(t *testing.T) {
	for _, log := range wrongLogs {
		wantNoShare(t, []int{3, 1, 0, 4}, log)
		wantNoShare(t, []int{1}, log)
		wantNoShare(t, nil, log)
	}
}

func TestShareRefusesCounts(t *testing.T) {
	for log := 5; log <= 9; log++ {
		for _, counts := range [][]int{
			nil, {}, {0}, make([]int, 64), make([]int, 65),
			{-1}, {2, -1}, {-1, 2}, {math.MinInt, 1}, {3, -3},
			{math.MaxUint32 + 1}, {1, math.MaxUint32 + 1}, {math.MaxInt}, {math.MaxInt, math.MaxInt},
			join([]int{1}, make([]int, 64)), join(make([]int, 64), []int{1}), same(1, 65), same(1, 1000),
		} {
			wantNoShare(t, counts, log)
		}
	}
}

func TestShareRefusesMoreThanHalfTheSize(t *testing.T) {
	for log, half := range map[int]int{5: 16, 6: 32} {
		wantShare(t, same(1, half), log, same(2, half))
		wantNoShare(t, same(1, half+1), log)
		wantNoShare(t, same(1, 64), log)
		apart := join(make([]int, 64-half), same(4, half))
		wantShare(t, apart, log, join(make([]int, 64-half), same(2, half)))
		apart[0] = 1
		wantNoShare(t, apart, log)
	}
}

// slowShare is P3.1 told once more, for counts that may be handed in.
func slowShare(counts []int, log int) []int {
	size, all := 1<<log, 0
	for _, count := range counts {
		all += count
	}
	share := make([]int, len(counts))
	for i, count := range counts {
		if count > 0 {
			share[i] = max(1, count*size/all)
		}
	}
	for {
		sum := 0
		for _, n := range share {
			sum += n
		}
		if sum == size {
			break
		}
		share[slices.Index(share, slices.Max(share))] += (size - sum) / max(size-sum, sum-size)
	}
	for share[len(share)-1] == 0 {
		share = share[:len(share)-1]
	}
	return share
}

// someCounts are counts that may be handed in with log.
func someCounts(chance *rand.Rand, log int) []int {
	counts := make([]int, 1+chance.Intn(64))
	for range 1 + chance.Intn(1<<log/2) {
		counts[chance.Intn(len(counts))] = 1 + chance.Intn(1<<chance.Intn(12))
	}
	return counts
}

func TestShareOfManyCounts(t *testing.T) {
	chance := rand.New(rand.NewSource(1))
	for range 5000 {
		log := 5 + chance.Intn(5)
		counts := someCounts(chance, log)
		wantShare(t, counts, log, slowShare(counts, log))
	}
}

// P3.6

func TestSharesMayBeAndEachThatStandsHasSome(t *testing.T) {
	chance := rand.New(rand.NewSource(2))
	for range 5000 {
		log := 5 + chance.Intn(5)
		counts := someCounts(chance, log)
		counts[chance.Intn(len(counts))] = 1 + chance.Intn(math.MaxUint32)
		share, e := fse.Share(counts, log)
		if e != api.OK {
			if stand := len(slices.DeleteFunc(counts, func(n int) bool { return n == 0 })); stand <= 1<<log/2 {
				t.Fatalf("Share(%v, %d) is %v", counts, log, e)
			}
			continue
		}
		if _, e := fse.PutShare(share, log); e != api.OK {
			t.Fatalf("PutShare(%v, %d) is %v", share, log, e)
		}
		for symbol, count := range counts {
			if some := symbol < len(share) && share[symbol] > 0; some != (count > 0) {
				t.Fatalf("of counts %v the share is %v", counts, share)
			}
		}
	}
}

// P3.2

func wantWritten(t *testing.T, share []int, log int, written []byte) {
	t.Helper()
	if got, e := fse.PutShare(share, log); e != api.OK || !slices.Equal(got, written) {
		t.Errorf("PutShare(%v, %d) is %v, %v, not %v", share, log, got, e, written)
	}
	wantRead(t, written, share, log, len(written))
	for _, behind := range []byte{0, 1, 127, 128, 255} {
		wantRead(t, append(slices.Clone(written), behind), share, log, len(written))
	}
}

func wantRead(t *testing.T, data []byte, share []int, log, many int) {
	t.Helper()
	if got, gotLog, gotMany, e := fse.GetShare(data); e != api.OK || gotLog != log || gotMany != many || !slices.Equal(got, share) {
		t.Errorf("GetShare(%v) is %v, %d, %d, %v, not %v, %d, %d", data, got, gotLog, gotMany, e, share, log, many)
	}
}

func wantNoRead(t *testing.T, data []byte, want api.Errno) {
	t.Helper()
	if got, log, many, e := fse.GetShare(data); e != want || len(got) != 0 || log != 0 || many != 0 {
		t.Errorf("GetShare(%v) is %v, %d, %d, %v, not %v", data, got, log, many, e, want)
	}
}

func TestSharesAreWrittenAndRead(t *testing.T) {
	wantWritten(t, []int{12, 4, 0, 16}, 5, []byte{5, 4, 12, 4, 0, 16})
	wantWritten(t, []int{32}, 5, []byte{5, 1, 32})
	wantWritten(t, []int{64}, 6, []byte{6, 1, 64})
	wantWritten(t, []int{1, 127}, 7, []byte{7, 2, 1, 127})
	wantWritten(t, []int{128}, 7, []byte{7, 1, 128, 1})
	wantWritten(t, []int{0, 0, 256}, 8, []byte{8, 3, 0, 0, 128, 2})
	wantWritten(t, []int{300, 212}, 9, []byte{9, 2, 172, 2, 212, 1})
	wantWritten(t, []int{512}, 9, []byte{9, 1, 128, 4})
}

func TestSharesOfManySymbolsAreWrittenAndRead(t *testing.T) {
	wantWritten(t, same(1, 32), 5, append([]byte{5, 32}, slices.Repeat([]byte{1}, 32)...)) // more stand than half the size
	wantWritten(t, same(1, 64), 6, append([]byte{6, 64}, slices.Repeat([]byte{1}, 64)...))
	wantWritten(t, same(8, 64), 9, append([]byte{9, 64}, slices.Repeat([]byte{8}, 64)...))
	wantWritten(t, join(make([]int, 63), []int{32}), 5, append(append([]byte{5, 64}, make([]byte, 63)...), 32))
}

type logged struct {
	share []int
	log   int
}

// noShares are those that may not be.
func noShares() []logged {
	l := []logged{
		{nil, 5}, {[]int{}, 5}, {nil, 0}, {[]int{0}, 5}, {make([]int, 64), 5},
		{[]int{31}, 5}, {[]int{33}, 5}, {[]int{16, 15}, 5}, {[]int{16, 17}, 5}, {[]int{32, 32}, 5}, {[]int{511}, 9}, {[]int{513}, 9}, {[]int{1}, 5},
		{[]int{32, 0}, 5}, {[]int{0, 32, 0, 0}, 5}, {[]int{12, 4, 16, 0}, 5},
		{[]int{-1, 33}, 5}, {[]int{33, -1}, 5}, {[]int{-32, 64}, 5}, {[]int{40, -16, 8}, 5}, {[]int{-32}, 5},
		{[]int{math.MaxInt, 1, math.MaxInt, 33}, 5}, {[]int{math.MaxInt, math.MaxInt, 34}, 5}, {[]int{math.MinInt, math.MinInt, 32}, 5}, {[]int{math.MaxInt}, 9}, {[]int{math.MinInt}, 5},
		{same(1<<58, 64), 5}, {join(same(1<<59, 32), []int{32}), 5},
		{join(make([]int, 64), []int{32}), 5}, {join(same(1, 63), []int{1, 448}), 9}, {same(8, 65), 9}, {same(1, 128), 7},
		{[]int{32}, 6}, {[]int{64}, 5}, {[]int{12, 4, 0, 16}, 6},
	}
	for _, log := range wrongLogs {
		l = append(l, logged{[]int{12, 4, 0, 16}, log}, logged{[]int{1}, log}, logged{[]int{0, 16}, log}, logged{[]int{1024}, log}, logged{nil, log})
	}
	return l
}

func TestSharesThatMayNotBeAreRefused(t *testing.T) {
	for _, l := range noShares() {
		if got, e := fse.PutShare(l.share, l.log); e != api.ErrTable || len(got) != 0 {
			t.Errorf("PutShare(%v, %d) is %v, %v", l.share, l.log, got, e)
		}
		for _, symbols := range [][]int{nil, {0}, {-1}, make([]int, 1<<16+1)} { // also where symbols may not be
			if got, e := fse.Encode(l.share, l.log, symbols); e != api.ErrTable || len(got) != 0 {
				t.Errorf("Encode(%v, %d, %d symbols) is %v, %v", l.share, l.log, len(symbols), got, e)
			}
		}
		for _, n := range []int{0, 1, -1, 1<<16 + 1} { // also where n may not be, or there is no mark
			for _, packed := range [][]byte{nil, {0}, {32}} {
				if got, e := fse.Decode(l.share, l.log, packed, n); e != api.ErrTable || len(got) != 0 {
					t.Errorf("Decode(%v, %d, %v, %d) is %v, %v", l.share, l.log, packed, n, got, e)
				}
			}
		}
	}
}

func TestSharesThatAreCut(t *testing.T) {
	for _, data := range [][]byte{
		{5, 4, 12, 4, 0, 16}, {5, 1, 32}, {9, 2, 172, 2, 212, 1}, {9, 1, 128, 4}, append([]byte{6, 64}, slices.Repeat([]byte{1}, 64)...),
	} {
		for n := range data {
			wantNoRead(t, data[:n], api.ErrBits)
		}
	}
}

func TestSharesWhoseHeadIsNotThere(t *testing.T) {
	for log := range 256 { // ahead of a log that may not be
		wantNoRead(t, []byte{byte(log)}, api.ErrBits)
		wantNoRead(t, []byte{byte(log), 128}, api.ErrBits)
		wantNoRead(t, []byte{byte(log), 129, 0, 32}, api.ErrBits)                   // not the shortest
		wantNoRead(t, []byte{byte(log), 255, 255, 255, 255, 16, 1, 1}, api.ErrBits) // too great
	}
}

func TestSharesWithALogThatMayNotBe(t *testing.T) {
	for log := range 256 {
		if log >= 5 && log <= 9 {
			continue
		}
		wantNoRead(t, []byte{byte(log), 1, 32}, api.ErrTable)
		wantNoRead(t, []byte{byte(log), 0}, api.ErrTable)
		wantNoRead(t, []byte{byte(log), 1}, api.ErrTable) // ahead of numbers that are not there
		wantNoRead(t, []byte{byte(log), 3, 128}, api.ErrTable)
	}
	wantNoRead(t, []byte{4, 1, 16}, api.ErrTable)
	wantNoRead(t, []byte{10, 1, 128, 8}, api.ErrTable)
}

func TestSharesOfTooManySymbols(t *testing.T) {
	wantNoRead(t, append(append([]byte{5, 65}, make([]byte, 64)...), 32), api.ErrTable)
	wantNoRead(t, []byte{5, 65}, api.ErrTable) // ahead of numbers that are not there
	wantNoRead(t, []byte{5, 255, 255, 255, 255, 15}, api.ErrTable)
	wantNoRead(t, []byte{9, 128, 1, 128}, api.ErrTable)
	wantNoRead(t, []byte{5, 64}, api.ErrBits)
}

func TestSharesWithNumbersOfNoForm(t *testing.T) {
	wantNoRead(t, []byte{5, 1, 128}, api.ErrBits)
	wantNoRead(t, []byte{5, 1, 160, 0}, api.ErrBits)
	wantNoRead(t, []byte{5, 2, 32, 128, 0}, api.ErrBits)
	wantNoRead(t, []byte{5, 2, 33, 128}, api.ErrBits) // ahead of a share that may not be
	wantNoRead(t, []byte{5, 2, 255, 255, 255, 255, 15}, api.ErrBits)
	wantNoRead(t, []byte{5, 1, 255, 255, 255, 255, 16}, api.ErrBits)
}

func TestReadSharesThatMayNotBe(t *testing.T) {
	for _, data := range [][]byte{
		{5, 0}, {5, 0, 32}, {5, 1, 31}, {5, 1, 33}, {5, 1, 0}, {5, 2, 32, 0}, {5, 2, 16, 17}, {5, 2, 16, 15}, {6, 1, 32}, {5, 1, 64}, {9, 1, 255, 3}, {9, 1, 129, 4},
		{5, 1, 255, 255, 255, 255, 15}, {5, 4, 12, 4, 16, 0}, {5, 3, 1, 1, 1},
	} {
		wantNoRead(t, data, api.ErrTable)
	}
}

// shortNum is the short number at the front of data, and what stands behind.
func shortNum(data []byte) (n int, behind []byte, ok bool) {
	for i, b := range data {
		n += int(b%128) << (7 * i)
		if b < 128 {
			return n, data[i+1:], i < 5 && n <= math.MaxUint32 && (i == 0 || b > 0)
		}
		if i == 5 {
			break
		}
	}
	return 0, nil, false
}

// slowGet is P3.2 told once more.
func slowGet(data []byte) ([]int, int, int, api.Errno) {
	if len(data) == 0 {
		return nil, 0, 0, api.ErrBits
	}
	log := int(data[0])
	many, behind, ok := shortNum(data[1:])
	if !ok {
		return nil, 0, 0, api.ErrBits
	}
	if log < 5 || log > 9 || many > 64 {
		return nil, 0, 0, api.ErrTable
	}
	var share []int
	sum := 0
	for range many {
		n, rest, ok := shortNum(behind)
		if !ok {
			return nil, 0, 0, api.ErrBits
		}
		share, sum, behind = append(share, n), sum+n, rest
	}
	if many == 0 || share[many-1] == 0 || sum != 1<<log {
		return nil, 0, 0, api.ErrTable
	}
	return share, log, len(data) - len(behind), api.OK
}

// likeShare is bytes of which some are a share, and most are nearly one.
func likeShare(chance *rand.Rand) []byte {
	data := make([]byte, chance.Intn(8))
	for i := range data {
		data[i] = []byte{0, 1, 8, 16, 32, 128, 132, byte(chance.Intn(256))}[chance.Intn(8)]
	}
	if len(data) > 1 && chance.Intn(3) > 0 {
		data[0], data[1] = byte(4+chance.Intn(7)), byte(chance.Intn(6))
	}
	if few := chance.Intn(32); chance.Intn(3) == 0 {
		data = append([]byte{5, 3, byte(few), byte(31 - few), 1}, data...)
		data[chance.Intn(5)] += byte(chance.Intn(3))
	}
	return data
}

func TestGetShareOfAnyBytes(t *testing.T) {
	chance := rand.New(rand.NewSource(3))
	told := map[api.Errno]int{}
	for range 300000 {
		data := likeShare(chance)
		share, log, many, e := fse.GetShare(data)
		wantS, wantL, wantM, wantE := slowGet(data)
		told[wantE]++
		if !slices.Equal(share, wantS) || log != wantL || many != wantM || e != wantE {
			t.Fatalf("GetShare(%v) is %v, %d, %d, %v, not %v, %d, %d, %v", data, share, log, many, e, wantS, wantL, wantM, wantE)
		}
	}
	if len(told) != 3 || told[api.OK] < 1000 {
		t.Errorf("the bytes told only %v", told)
	}
}

// P3.5

func TestGetShareOfPutShare(t *testing.T) {
	chance := rand.New(rand.NewSource(4))
	for range 3000 {
		log := 5 + chance.Intn(5)
		share := anyShare(chance, log)
		written, e := fse.PutShare(share, log)
		if e != api.OK {
			t.Fatalf("PutShare(%v, %d) is %v", share, log, e)
		}
		wantRead(t, append(slices.Clip(written), 9), share, log, len(written))
	}
}

// R4

func TestSharesLeaveWhatIsHandedIn(t *testing.T) {
	room := []int{1000, 1, 1, 0, 7, 7, 7}
	kept := slices.Clone(room)
	one := mustShare(t, room[:4], 5)
	if !slices.Equal(room, kept) {
		t.Fatalf("the counts are %v then", room)
	}
	clear(one[:cap(one)])
	if !slices.Equal(room, kept) {
		t.Fatalf("Share shares memory with its counts: %v", room)
	}
	wantShare(t, room[:4], 5, []int{30, 1, 1})

	fits := []int{12, 4, 0, 16, 7, 7}
	written, e := fse.PutShare(fits[:4], 5)
	if e != api.OK || !slices.Equal(fits, []int{12, 4, 0, 16, 7, 7}) {
		t.Fatalf("PutShare: %v, %v", fits, e)
	}
	data := append(written, 9, 9)
	share, _, _, e := fse.GetShare(data[:6])
	if e != api.OK || !slices.Equal(data, []byte{5, 4, 12, 4, 0, 16, 9, 9}) {
		t.Fatalf("GetShare: %v, %v", data, e)
	}
	clear(data)
	if !slices.Equal(share, []int{12, 4, 0, 16}) {
		t.Errorf("the share is %v then", share)
	}
}
