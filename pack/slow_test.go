package pack_test

import (
	"encoding/binary"
	"hash/crc32"
	mathbits "math/bits"
	"math/rand"
	"slices"
	"testing"

	"kist/api"
	"kist/bits"
	"kist/fse"
	"kist/huff"
	"kist/match"
)

// What stands here tells the form once more, over the layers below.

func join(parts ...[]byte) []byte { return slices.Concat(parts...) }

func check(e api.Errno) {
	if e != api.OK {
		panic(e)
	}
}

func num(n int) []byte {
	b, e := bits.PutNum(nil, n)
	check(e)
	return b
}

func sized(b []byte) []byte { return join(num(len(b)), b) }

func head(mode byte, n int) []byte { return join([]byte{mode}, num(n)) }

func sum[T string | []byte](data T) []byte {
	crc := crc32.Checksum([]byte(data), crc32.MakeTable(crc32.Castagnoli))
	return binary.LittleEndian.AppendUint32(nil, crc)
}

// plain is literals with byte 0.
func plain(literals string) []byte {
	return join(num(len(literals)), []byte{0}, []byte(literals))
}

// coded is literals with byte 1.
func coded(lengths []int, literals string) []byte {
	table, e := huff.PutTable(lengths)
	check(e)
	codes, e := huff.Encode(lengths, []byte(literals))
	check(e)
	return join(num(len(literals)), []byte{1}, table, sized(codes))
}

func stream(share []int, log int, symbols ...int) []byte {
	table, e := fse.PutShare(share, log)
	check(e)
	codes, e := fse.Encode(share, log, symbols)
	check(e)
	return join(table, sized(codes))
}

// only is the share of which one symbol has all.
func only(symbol, log int) []int {
	share := make([]int, symbol+1)
	share[symbol] = 1 << log
	return share
}

func step(lits, length, dist int) api.Seq { return api.Seq{Lits: lits, Len: length, Dist: dist} }

func valuesOf(s api.Seq) []int { return []int{s.Lits, s.Len - 4, s.Dist - 1} }

// stepsAs is steps with streams of the shares that shareOf gives for counts of codes.
func stepsAs(l []api.Seq, log int, shareOf func(counts []int) []int) []byte {
	out := num(len(l))
	if len(l) == 0 {
		return out
	}
	for i := range 3 {
		counts := make([]int, 17)
		var symbols []int
		for _, s := range l {
			code := mathbits.Len(uint(valuesOf(s)[i]))
			symbols = append(symbols, code)
			counts[code]++
		}
		out = join(out, stream(shareOf(counts), log, symbols...))
	}
	var row []byte // each byte a bit
	for _, s := range l {
		for _, v := range valuesOf(s) {
			for ; v > 1; v /= 2 {
				row = append(row, byte(v%2))
			}
		}
	}
	rests := make([]byte, (len(row)+7)/8)
	for i, bit := range row {
		rests[i/8] += bit << (i % 8)
	}
	return join(out, sized(rests))
}

// steps is steps with the streams of P6.1.
func steps(l ...api.Seq) []byte {
	return stepsAs(l, 6, func(counts []int) []int {
		share, e := fse.Share(counts, 6)
		check(e)
		return share
	})
}

func lengthsOf(literals []byte) []int {
	counts := make([]int, 256)
	for _, b := range literals {
		counts[b]++
	}
	lengths, e := huff.Lengths(counts)
	check(e)
	return lengths
}

// slowForms are the forms that P6.1 has for data, by rising mode, nil where there is none; tied says that the literals are as long with either byte.
func slowForms(data []byte) (forms [3][]byte, tied bool) {
	n := len(data)
	forms[0] = join(head(0, n), data, sum(data))
	if n == 0 {
		return forms, false
	}
	if len(slices.Compact(slices.Clone(data))) == 1 {
		forms[1] = join(head(1, n), data[:1], sum(data))
	}
	l, e := match.Find(data, 1<<16)
	check(e)
	literals, e := match.Literals(data, l)
	check(e)
	zero, one := plain(string(literals)), coded(lengthsOf(literals), string(literals))
	best := zero
	if len(one) < len(zero) {
		best = one
	}
	forms[2] = join(head(2, n), best, steps(l...), sum(data))
	return forms, len(one) == len(zero)
}

// slowPack is P6.1 for data that may be packed.
func slowPack(data []byte) []byte {
	forms, _ := slowForms(data)
	best := forms[0]
	for _, b := range forms[1:] {
		if b != nil && len(b) < len(best) {
			best = b
		}
	}
	return best
}

// slowUnpack is P6.2 told once more.
func slowUnpack(data []byte, most int) ([]byte, api.Errno) {
	if most < 0 || most > 1<<16 {
		return nil, api.ErrArg
	}
	out, e := slowBody(data, most)
	if e == api.OK && !slices.Equal(data[len(data)-4:], sum(out)) {
		return nil, api.ErrSum
	}
	return out, e
}

// slowBody is the unpacked bytes, whatever their sum; what is of no form ends in a panic.
func slowBody(data []byte, most int) (out []byte, e api.Errno) {
	defer func() {
		if recover() != nil {
			out, e = nil, api.ErrData
		}
	}()
	at := 0
	take := func(n int) []byte {
		at += n
		return data[at-n : at : at]
	}
	takeNum := func() int {
		n, size, e := bits.Num(data[at:])
		check(e)
		at += size
		return n
	}
	must := func(ok bool) {
		if !ok {
			panic("of no form")
		}
	}
	mode, n := int(take(1)[0]), takeNum()
	must(mode <= 2)
	if n > most {
		return nil, api.ErrBig
	}
	must(mode == 0 || n > 0)
	switch mode {
	case 0:
		out = slices.Clone(take(n))
	case 1:
		out = slices.Repeat(take(1), n)
	case 2:
		many := takeNum()
		must(many <= n)
		var literals []byte
		if kind := take(1)[0]; kind == 0 {
			literals = take(many)
		} else {
			must(kind == 1)
			lengths, size, e := huff.Table(data[at:])
			check(e)
			take(size)
			literals, e = huff.Decode(lengths, take(takeNum()), many)
			check(e)
		}
		l := slowSteps(n, takeNum, take, must, func() ([]int, int, int, api.Errno) { return fse.GetShare(data[at:]) })
		out, e = match.Run(literals, l, n)
		check(e)
		must(len(out) == n)
	}
	must(at+4 == len(data))
	return out, api.OK
}

func slowSteps(n int, takeNum func() int, take func(int) []byte, must func(bool), getShare func() ([]int, int, int, api.Errno)) []api.Seq {
	many := takeNum()
	must(many <= n/4)
	if many == 0 {
		return nil
	}
	var symbols [3][]int
	for i := range symbols {
		share, log, size, e := getShare()
		check(e)
		take(size)
		must(len(share) <= 17)
		symbols[i], e = fse.Decode(share, log, take(takeNum()), many)
		check(e)
	}
	rests := take(takeNum())
	bit := 0
	var l []api.Seq
	for i := range many {
		var v [3]int
		for j := range v {
			code := symbols[j][i]
			if code > 0 {
				v[j] = 1 << (code - 1)
			}
			for k := range code - 1 {
				v[j] += int(rests[bit/8]>>(bit%8)&1) << k
				bit++
			}
		}
		l = append(l, step(v[0], v[1]+4, v[2]+1))
	}
	must(len(rests) == (bit+7)/8)
	must(bit%8 == 0 || rests[bit/8]>>(bit%8) == 0)
	return l
}

// anyData is made of few bytes or many, with pieces that come again.
func anyData(chance *rand.Rand, most int) []byte {
	kinds := 1 + chance.Intn(1<<chance.Intn(9))
	size := chance.Intn(most + 1)
	again := chance.Intn(6)
	var data []byte
	for len(data) < size {
		if at := chance.Intn(len(data) + 1); chance.Intn(6) < again && at < len(data) {
			data = append(data, data[at:min(len(data), at+chance.Intn(400))]...)
		}
		for range chance.Intn(9) {
			data = append(data, byte(chance.Intn(kinds)))
		}
	}
	return data[:size]
}

func anyBytes(chance *rand.Rand, size int) []byte {
	data := make([]byte, size)
	chance.Read(data)
	return data
}

// fourApart is bytes below kinds, as many as go, among which no four stand twice.
func fourApart(kinds int) []byte {
	var data []byte
	seen := map[[4]byte]bool{}
grow:
	for {
		for b := range kinds {
			next := append(slices.Clone(data), byte(b))
			if len(next) < 4 {
				data = next
				continue grow
			}
			if four := [4]byte(next[len(next)-4:]); !seen[four] {
				seen[four] = true
				data = next
				continue grow
			}
		}
		return data
	}
}

// The slow ones must be right about what the document shows, else they are no measure.
func TestSlowOnesShowTheExamples(t *testing.T) {
	if b := slowPack(nil); !slices.Equal(b, make([]byte, 6)) {
		t.Error(b)
	}
	seven := slowPack([]byte("xxxxxxx"))
	if len(seven) != 7 || !slices.Equal(seven[:3], []byte{1, 7, 120}) {
		t.Error(seven)
	}
	for _, l := range []struct {
		data []byte
		most int
		want string
		e    api.Errno
	}{
		{seven, 7, "xxxxxxx", api.OK},
		{seven, 6, "", api.ErrBig},
		{append(slices.Clone(seven), 0), 9, "", api.ErrData},
		{[]byte{3}, 9, "", api.ErrData},
		{[]byte{0, 1, 120, 0, 0, 0, 0}, 9, "", api.ErrSum},
	} {
		if b, e := slowUnpack(l.data, l.most); e != l.e || string(b) != l.want {
			t.Errorf("%v %d: %q %v", l.data, l.most, b, e)
		}
	}
}
