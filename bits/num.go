package bits

import "kist/api"

const (
	groupBits  = 7
	mostGroups = 5              // 2^32 - 1 has no more
	more       = 1 << groupBits // in a byte: another group comes behind
)

// PutNum is out with the short number n behind.
func PutNum(out []byte, n int) ([]byte, api.Errno) {
	grown := fresh(out)
	if n < 0 || n > api.MaxNumber {
		return grown, api.ErrArg
	}
	for n >= more {
		grown = append(grown, byte(n%more+more))
		n /= more
	}
	return append(grown, byte(n)), api.OK
}

// Num is the short number with which data begins, and how many bytes it has.
func Num(data []byte) (int, int, api.Errno) {
	n := 0
	for i, b := range data[:min(len(data), mostGroups)] {
		n |= int(b%more) << (groupBits * i)
		if b >= more {
			continue
		}
		padded := b == 0 && i > 0
		if padded || n > api.MaxNumber {
			break
		}
		return n, i + 1, api.OK
	}
	return 0, 0, api.ErrBits
}
