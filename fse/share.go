package fse

import (
	"slices"

	"kist/api"
	"kist/bits"
)

const (
	leastLog    = 5
	mostLog     = 9
	mostSymbols = 64
)

func mayBeLog(log int) bool { return log >= leastLog && log <= mostLog }

// mayBe says whether share fills a table of that log, and the log may be.
func mayBe(share []int, log int) bool {
	if !mayBeLog(log) || len(share) > mostSymbols {
		return false
	}
	size, sum := 1<<log, 0
	for _, many := range share {
		if many < 0 || many > size {
			return false
		}
		sum += many
	}
	return sum == size && share[len(share)-1] != 0
}

// Share is the shares of symbols that stand so often.
func Share(counts []int, log int) ([]int, api.Errno) {
	if !mayShare(counts, log) {
		return nil, api.ErrArg
	}
	size := 1 << log
	share := portions(counts, size)
	fill(share, size)
	return share, api.OK
}

func mayShare(counts []int, log int) bool {
	if !mayBeLog(log) || len(counts) > mostSymbols {
		return false
	}
	stand := 0
	for _, count := range counts {
		if count < 0 || count > api.MaxNumber {
			return false
		}
		if count > 0 {
			stand++
		}
	}
	return stand > 0 && stand <= 1<<log/2
}

// portions is what of size comes to each count, up to the last one that is above 0.
func portions(counts []int, size int) []int {
	all := sumOf(counts)
	var share []int
	for symbol, count := range counts {
		if count == 0 {
			continue
		}
		share = append(share, make([]int, symbol-len(share))...)
		share = append(share, max(1, count*size/all))
	}
	return share
}

// fill lets the greatest give or take till the shares are size together. None comes to nothing by that: at most half of size are above 0, so the greatest of too many is 2 at least.
func fill(share []int, size int) {
	sum := sumOf(share)
	for ; sum > size; sum-- {
		share[firstGreatest(share)]--
	}
	for ; sum < size; sum++ {
		share[firstGreatest(share)]++
	}
}

func firstGreatest(share []int) int {
	found := 0
	for i, many := range share {
		if many > share[found] {
			found = i
		}
	}
	return found
}

func sumOf(numbers []int) int {
	sum := 0
	for _, n := range numbers {
		sum += n
	}
	return sum
}

// PutShare writes a share.
func PutShare(share []int, log int) ([]byte, api.Errno) {
	if !mayBe(share, log) {
		return nil, api.ErrTable
	}
	out := []byte{byte(log)}
	for _, n := range slices.Concat([]int{len(share)}, share) {
		grown, e := bits.PutNum(out, n)
		if e != api.OK {
			return nil, e
		}
		out = grown
	}
	return out, api.OK
}

// GetShare reads one: the share, the log, how many bytes.
func GetShare(data []byte) ([]int, int, int, api.Errno) {
	if len(data) == 0 {
		return nil, 0, 0, api.ErrBits
	}
	log := int(data[0])
	many, used, e := bits.Num(data[1:])
	if e != api.OK {
		return nil, 0, 0, e
	}
	if !mayBeLog(log) || many > mostSymbols {
		return nil, 0, 0, api.ErrTable
	}
	at := 1 + used
	share, used, e := takeNumbers(data[at:], many)
	if e != api.OK {
		return nil, 0, 0, e
	}
	if !mayBe(share, log) {
		return nil, 0, 0, api.ErrTable
	}
	return share, log, at + used, api.OK
}

// takeNumbers is the short numbers with which data begins, and how many bytes they have.
func takeNumbers(data []byte, many int) ([]int, int, api.Errno) {
	numbers := make([]int, 0, many)
	at := 0
	for range many {
		n, used, e := bits.Num(data[at:])
		if e != api.OK {
			return nil, 0, e
		}
		numbers = append(numbers, n)
		at += used
	}
	return numbers, at, api.OK
}
