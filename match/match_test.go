package match_test

import (
	"bytes"
	"math"
	"math/rand"
	"slices"
	"strings"
	"testing"

	"kist/api"
	"kist/match"
)

func step(lits, length, dist int) api.Seq { return api.Seq{Lits: lits, Len: length, Dist: dist} }

// slowBest is the best match at a place as the document tells it, over all distances.
func slowBest(data []byte, window, at int) (length, dist int) {
	for d := 1; d <= window && d <= at; d++ {
		n := 0
		for n < 259 && at+n < len(data) && data[at+n] == data[at+n-d] {
			n++
		}
		if n >= 4 && n > length {
			length, dist = n, d
		}
	}
	return length, dist
}

// slowFind is P4.1 told once more, for a window that may be.
func slowFind(data []byte, window int) []api.Seq {
	var l []api.Seq
	lits := 0
	for at := 0; at < len(data); {
		length, dist := slowBest(data, window, at)
		later, _ := slowBest(data, window, at+1)
		if length == 0 || later > length {
			lits++
			at++
			continue
		}
		l = append(l, step(lits, length, dist))
		lits = 0
		at += length
	}
	return l
}

// anyData is made of few bytes or many, with pieces that come again.
func anyData(chance *rand.Rand, most int) []byte {
	kinds := 1 + chance.Intn(1<<chance.Intn(9))
	size := chance.Intn(most + 1)
	var data []byte
	for len(data) < size {
		if at := chance.Intn(len(data) + 1); chance.Intn(4) == 0 && at < len(data) {
			data = append(data, data[at:min(len(data), at+chance.Intn(400))]...)
		}
		for range chance.Intn(9) {
			data = append(data, byte(chance.Intn(kinds)))
		}
	}
	return data[:size]
}

// fourApart has no four bytes twice: a count up to 40000 in two bytes, each behind a 200 that tells where it begins.
func fourApart(size int) string {
	var data []byte
	for i := 0; len(data) < size; i++ {
		data = append(data, 200, byte(i/200), byte(i%200))
	}
	return string(data[:size])
}

// P4.1

func TestFindExamples(t *testing.T) {
	for _, l := range []struct {
		data   string
		window int
		want   []api.Seq
	}{
		{"abcdabcdabcd", 100, []api.Seq{step(4, 8, 4)}},
		{"aaaaaa", 100, []api.Seq{step(1, 5, 1)}},
		{"abc", 9, nil},
		{"", 1, nil},
		{"a", 1, nil},
		{"aaaa", 1, nil}, // behind the first one only three are left
		{"aaaaa", 1, []api.Seq{step(1, 4, 1)}},
		{"abcxabc", 9, nil}, // three bytes are no match
		{"abcdxabcd", 5, []api.Seq{step(5, 4, 5)}},
		{"abcdxabcd", 4, nil}, // it stands out of the window
		{"abcdxabcdyz", 9, []api.Seq{step(5, 4, 5)}},
		{"abcd-abcd-abcd", 99, []api.Seq{step(5, 9, 5)}},
		{"abcdeXabcdYabcde", 99, []api.Seq{step(6, 4, 6), step(1, 5, 11)}}, // the longer one, though it is farther
		{"abcdeXabcdYabcde", 10, []api.Seq{step(6, 4, 6), step(1, 4, 5)}},  // the longer one stands out of the window
		{"abcdXabcdYabcdZ", 99, []api.Seq{step(5, 4, 5), step(1, 4, 5)}},   // of two that are as long the nearer one
	} {
		if x, e := match.Find([]byte(l.data), l.window); e != api.OK || !slices.Equal(x, l.want) {
			t.Errorf("%q %d: %v %v, not %v", l.data, l.window, x, e, l.want)
		}
	}
}

func TestFindLaterAndLonger(t *testing.T) {
	for _, l := range []struct {
		data string
		want []api.Seq
	}{
		{"bcdeabcd-abcdefg-bcdefghi", []api.Seq{step(9, 4, 5), step(4, 6, 7)}},
		{"abcd1bcdef2abcdef", []api.Seq{step(12, 5, 7)}},                         // bcdef, a place later
		{"abcd1bcde2abcde", []api.Seq{step(10, 4, 10)}},                          // bcde is no longer than abcd
		{"abcd1bcdef2cdefgh3abcdefgh", []api.Seq{step(11, 4, 5), step(5, 6, 9)}}, // twice a place later
		{"abcd1cdefgh2abcdefgh", []api.Seq{step(12, 4, 12), step(0, 4, 9)}},      // cdefgh, but two places later
	} {
		if x, e := match.Find([]byte(l.data), 99); e != api.OK || !slices.Equal(x, l.want) {
			t.Errorf("%q: %v %v, not %v", l.data, x, e, l.want)
		}
	}
}

func TestFindLongest(t *testing.T) {
	for _, l := range []struct {
		many int
		want []api.Seq
	}{
		{259, []api.Seq{step(1, 258, 1)}},
		{260, []api.Seq{step(1, 259, 1)}},
		{263, []api.Seq{step(1, 259, 1)}},
		{264, []api.Seq{step(1, 259, 1), step(0, 4, 1)}},
		{1 + 2*259, []api.Seq{step(1, 259, 1), step(0, 259, 1)}},
	} {
		if x, e := match.Find(bytes.Repeat([]byte{7}, l.many), 1<<16); e != api.OK || !slices.Equal(x, l.want) {
			t.Errorf("%d: %v %v, not %v", l.many, x, e, l.want)
		}
	}
	far := "-" + strings.Repeat("x", 300) + "+" + strings.Repeat("x", 300)
	// behind the plus 259 have their like only in the first row, the nearest 42 from its beginning
	want := []api.Seq{step(2, 259, 1), step(0, 40, 1), step(1, 259, 260), step(0, 41, 1)}
	if x, e := match.Find([]byte(far), 1<<16); e != api.OK || !slices.Equal(x, want) {
		t.Errorf("%v %v, not %v", x, e, want)
	}
}

func TestFindNearestOfTheLongest(t *testing.T) {
	row := fourApart(300)
	data := row + "1" + row + "2" + row
	want := []api.Seq{step(301, 259, 301), step(0, 41, 301), step(1, 259, 301), step(0, 41, 301)}
	if x, e := match.Find([]byte(data), 1<<16); e != api.OK || !slices.Equal(x, want) {
		t.Errorf("%v %v, not %v", x, e, want)
	}
}

func TestFindFarthest(t *testing.T) {
	data := []byte("wxyz" + fourApart(1<<16-8) + "wxyz")
	for _, l := range []struct {
		window int
		want   []api.Seq
	}{
		{1<<16 - 5, nil},
		{1<<16 - 4, []api.Seq{step(1<<16-4, 4, 1<<16-4)}},
		{1 << 16, []api.Seq{step(1<<16-4, 4, 1<<16-4)}},
	} {
		if x, e := match.Find(data, l.window); e != api.OK || !slices.Equal(x, l.want) {
			t.Errorf("%d: %v %v, not %v", l.window, x, e, l.want)
		}
	}
}

func TestFindWrong(t *testing.T) {
	for _, l := range []struct {
		size, window int
		e            api.Errno
	}{
		{9, 0, api.ErrArg}, {9, -1, api.ErrArg}, {9, math.MinInt, api.ErrArg},
		{9, 1, api.OK}, {9, 1 << 16, api.OK},
		{9, 1<<16 + 1, api.ErrArg}, {9, math.MaxInt, api.ErrArg},
		{0, 0, api.ErrArg}, {0, 1, api.OK},
		{1 << 16, 9, api.OK}, {1<<16 + 1, 9, api.ErrArg}, {1 << 17, 0, api.ErrArg},
	} {
		x, e := match.Find(make([]byte, l.size), l.window)
		if e != l.e || e != api.OK && x != nil {
			t.Errorf("%d bytes, %d: %d steps %v", l.size, l.window, len(x), e)
		}
	}
	if x, e := match.Find(nil, 1); e != api.OK || len(x) != 0 {
		t.Errorf("nil: %v %v", x, e)
	}
}

func TestFindIsAsTold(t *testing.T) {
	chance := rand.New(rand.NewSource(4))
	for range 600 {
		data := anyData(chance, 700)
		window := 1 + chance.Intn(1<<chance.Intn(17))
		want := slowFind(data, window)
		if x, e := match.Find(data, window); e != api.OK || !slices.Equal(x, want) {
			t.Fatalf("%v %d: %v %v, not %v", data, window, x, e, want)
		}
	}
	for range 5 {
		data := make([]byte, 9000) // many places, with few that have their like
		chance.Read(data)
		copy(data[8000:], data[100:104])
		want := slowFind(data, 1<<16)
		if x, e := match.Find(data, 1<<16); e != api.OK || !slices.Equal(x, want) {
			t.Fatalf("%v %v, not %v", x, e, want)
		}
	}
}

// P4.2

func TestLiterals(t *testing.T) {
	for _, l := range []struct {
		data string
		l    []api.Seq
		want string
		e    api.Errno
	}{
		{"", nil, "", api.OK},
		{"abc", nil, "abc", api.OK},
		{"abcdabcdabcdx", []api.Seq{step(4, 8, 4)}, "abcdx", api.OK},
		{"abcdefgh", []api.Seq{step(1, 2, 9), step(0, 1, 0), step(2, 0, 3)}, "aefgh", api.OK}, // whether they could be run is not asked
		{"abcd", []api.Seq{step(1, 3, 1)}, "a", api.OK},
		{"abcd", []api.Seq{step(4, 0, 0)}, "abcd", api.OK},
		{"abcd", []api.Seq{step(0, 4, 1)}, "", api.OK},
		{"abcd", []api.Seq{step(0, 0, 0), step(2, 2, 1), step(0, 0, 0)}, "ab", api.OK},
		{"abcd", []api.Seq{step(1, 4, 1)}, "", api.ErrData},
		{"abcd", []api.Seq{step(5, 0, 0)}, "", api.ErrData},
		{"abcd", []api.Seq{step(0, 5, 1)}, "", api.ErrData},
		{"abcd", []api.Seq{step(1, 1, 1), step(1, 2, 1)}, "", api.ErrData},
		{"abcd", []api.Seq{step(-1, 2, 1)}, "", api.ErrData},
		{"abcd", []api.Seq{step(2, -1, 1)}, "", api.ErrData},
		{"abcd", []api.Seq{step(2, 1, -1)}, "", api.ErrData},
		{"abcd", []api.Seq{step(1, 1, 1), step(1, 1, math.MinInt)}, "", api.ErrData},
		{"abcd", []api.Seq{step(math.MaxInt, math.MaxInt, 1)}, "", api.ErrData},
		{"abcd", []api.Seq{step(2, math.MaxInt, 1)}, "", api.ErrData},
		{"abcd", []api.Seq{step(math.MaxInt, 2, 1)}, "", api.ErrData},
		{"", []api.Seq{step(0, 1, 1)}, "", api.ErrData},
	} {
		if b, e := match.Literals([]byte(l.data), l.l); e != l.e || string(b) != l.want {
			t.Errorf("%q %v: %q %v, not %q %v", l.data, l.l, b, e, l.want, l.e)
		}
	}
	long := make([]byte, 1<<17)
	if b, e := match.Literals(long, []api.Seq{step(1<<16, 1, 1)}); e != api.OK || len(b) != 1<<17-1 {
		t.Errorf("%d %v", len(b), e)
	}
}

// P4.3

func TestRun(t *testing.T) {
	for _, l := range []struct {
		literals string
		l        []api.Seq
		most     int
		want     string
		e        api.Errno
	}{
		{"abcdx", []api.Seq{step(4, 8, 4)}, 99, "abcdabcdabcdx", api.OK},
		{"", nil, 0, "", api.OK},
		{"ab", nil, 2, "ab", api.OK},
		{"a", []api.Seq{step(1, 3, 1)}, 4, "aaaa", api.OK},
		{"abcdef", []api.Seq{step(3, 2, 3), step(0, 1, 2), step(1, 3, 7)}, 99, "abcab" + "a" + "d" + "abc" + "ef", api.OK},
		{"ab", []api.Seq{step(2, 1, 1)}, 99, "abb", api.OK},                        // shorter than a match
		{"ab", []api.Seq{step(2, 300, 2)}, 999, strings.Repeat("ab", 151), api.OK}, // and longer
		{"ab", []api.Seq{step(0, 0, 0), step(1, 0, 0)}, 2, "ab", api.OK},
		{"a", []api.Seq{step(1, 1<<16-1, 1)}, 1 << 16, strings.Repeat("a", 1<<16), api.OK},

		{"ab", nil, -1, "", api.ErrArg},
		{"", nil, math.MinInt, "", api.ErrArg},
		{"", nil, 1 << 16, "", api.OK},
		{"", nil, 1<<16 + 1, "", api.ErrArg},
		{"a", []api.Seq{step(2, 1, 1)}, -1, "", api.ErrArg}, // named first

		{"a", []api.Seq{step(1, 3, 2)}, 99, "", api.ErrData},
		{"ab", []api.Seq{step(-1, 0, 0)}, 99, "", api.ErrData},
		{"ab", []api.Seq{step(3, 0, 0)}, 99, "", api.ErrData},
		{"ab", []api.Seq{step(1, 1, 1), step(2, 0, 0)}, 99, "", api.ErrData},
		{"ab", []api.Seq{step(math.MaxInt, 1, 1)}, 99, "", api.ErrData},
		{"ab", []api.Seq{step(math.MinInt, 1, 1)}, 99, "", api.ErrData},
		{"ab", []api.Seq{step(1, -1, 1)}, 99, "", api.ErrData},
		{"ab", []api.Seq{step(1, -1, 0)}, 99, "", api.ErrData},
		{"ab", []api.Seq{step(1, 0, 1)}, 99, "", api.ErrData},
		{"ab", []api.Seq{step(1, 0, -1)}, 99, "", api.ErrData},
		{"ab", []api.Seq{step(1, 1, 0)}, 99, "", api.ErrData},
		{"ab", []api.Seq{step(1, 1, -1)}, 99, "", api.ErrData},
		{"ab", []api.Seq{step(1, 1, math.MinInt)}, 99, "", api.ErrData},
		{"ab", []api.Seq{step(1, 1, math.MaxInt)}, 99, "", api.ErrData},
		{"ab", []api.Seq{step(0, 1, 1)}, 99, "", api.ErrData}, // nothing is there yet

		{"a", []api.Seq{step(1, 3, 1)}, 3, "", api.ErrBig},
		{"ab", nil, 1, "", api.ErrBig},
		{"ab", nil, 0, "", api.ErrBig},
		{"ab", []api.Seq{step(2, 0, 0)}, 1, "", api.ErrBig},
		{"ab", []api.Seq{step(1, 2, 1)}, 3, "", api.ErrBig}, // by the literal behind
		{"ab", []api.Seq{step(1, math.MaxInt, 1)}, 1 << 16, "", api.ErrBig},
		{"a", []api.Seq{step(1, 1<<16, 1)}, 1 << 16, "", api.ErrBig},
		{"a", []api.Seq{step(1, 3, 2)}, 1, "", api.ErrData},                  // ahead of too many
		{"a", []api.Seq{step(1, 3, 1), step(9, 0, 0)}, 3, "", api.ErrBig},    // the first step is asked first
		{"abc", []api.Seq{step(1, 1, 1), step(9, 0, 0)}, 2, "", api.ErrData}, // and the literals behind at last
	} {
		if b, e := match.Run([]byte(l.literals), l.l, l.most); e != l.e || string(b) != l.want {
			t.Errorf("%q %v %d: %q %v, not %q %v", l.literals, l.l, l.most, b, e, l.want, l.e)
		}
	}
}

// slowRun is P4.3 told once more, for numbers that are small.
func slowRun(literals string, l []api.Seq, most int) (string, api.Errno) {
	out := ""
	for _, s := range l {
		if s.Lits < 0 || s.Lits > len(literals) || s.Len < 0 {
			return "", api.ErrData
		}
		next := out + literals[:s.Lits]
		if s.Len > 0 && (s.Dist < 1 || s.Dist > len(next)) || s.Len == 0 && s.Dist != 0 {
			return "", api.ErrData
		}
		if len(next)+s.Len > most {
			return "", api.ErrBig
		}
		for range s.Len {
			next += next[len(next)-s.Dist:][:1]
		}
		out, literals = next, literals[s.Lits:]
	}
	if len(out+literals) > most {
		return "", api.ErrBig
	}
	return out + literals, api.OK
}

func TestRunIsAsTold(t *testing.T) {
	chance := rand.New(rand.NewSource(43))
	seen := map[api.Errno]int{}
	for range 20000 {
		literals := string(anyData(chance, 12))
		var l []api.Seq
		for range chance.Intn(5) {
			s := step(chance.Intn(5)-chance.Intn(20)/19, chance.Intn(9)-chance.Intn(20)/19, 1+chance.Intn(5)-chance.Intn(20)/19)
			if s.Len == 0 && chance.Intn(9) > 0 {
				s.Dist = 0
			}
			l = append(l, s)
		}
		most := chance.Intn(40)
		want, f := slowRun(literals, l, most)
		seen[f]++
		if b, e := match.Run([]byte(literals), l, most); e != f || string(b) != want {
			t.Fatalf("%q %v %d: %q %v, not %q %v", literals, l, most, b, e, want, f)
		}
	}
	if seen[api.OK] < 1000 || seen[api.ErrData] < 1000 || seen[api.ErrBig] < 1000 {
		t.Error(seen)
	}
}

// P4.4

func TestRunOfFindIsTheData(t *testing.T) {
	chance := rand.New(rand.NewSource(44))
	for i := range 300 {
		data := anyData(chance, 3000)
		if i < 5 {
			data = anyData(chance, 1<<16)
		}
		window := 1 + chance.Intn(1<<chance.Intn(17))
		l, e := match.Find(data, window)
		if e != api.OK {
			t.Fatal(e)
		}
		literals, e := match.Literals(data, l)
		if e != api.OK {
			t.Fatal(e)
		}
		b, e := match.Run(literals, l, len(data))
		if e != api.OK || !bytes.Equal(b, data) {
			t.Fatalf("%v, %d bytes of %d", e, len(b), len(data))
		}
	}
}

// P4.5

func TestNoMatchIsLeftOut(t *testing.T) {
	chance := rand.New(rand.NewSource(45))
	for range 300 {
		data := anyData(chance, 500)
		l, _ := match.Find(data, 1<<16)
		at := 0
		literal := func() {
			here, _ := slowBest(data, 1<<16, at)
			if later, _ := slowBest(data, 1<<16, at+1); here > 0 && later <= here {
				t.Fatalf("%v: at %d is a match of %d", data, at, here)
			}
			at++
		}
		for _, s := range l {
			for range s.Lits {
				literal()
			}
			at += s.Len
		}
		for at < len(data) {
			literal()
		}
	}
}

// R4

func TestNothingIsKeptOrChanged(t *testing.T) {
	room := []byte("abcdabcdabcdx-spare")
	data := room[:13:19]
	l, _ := match.Find(data, 9)
	literals, _ := match.Literals(data, l)
	out, _ := match.Run(literals, l, 99)
	if string(room) != "abcdabcdabcdx-spare" || !slices.Equal(l, []api.Seq{step(4, 8, 4)}) || string(literals) != "abcdx" {
		t.Errorf("%q %v %q", room, l, literals)
	}
	clear(room)
	if string(literals) != "abcdx" || string(out) != "abcdabcdabcdx" {
		t.Errorf("%q %q", literals, out)
	}
	all, _ := match.Literals(literals, nil)
	same, _ := match.Run(literals, nil, 9)
	clear(literals)
	if string(all) != "abcdx" || string(same) != "abcdx" || string(out) != "abcdabcdabcdx" {
		t.Errorf("%q %q %q", all, same, out)
	}
}

func TestNilAndEmptyAreOne(t *testing.T) {
	for _, data := range [][]byte{nil, {}} {
		for _, l := range [][]api.Seq{nil, {}} {
			x, e := match.Find(data, 1)
			a, f := match.Literals(data, l)
			b, g := match.Run(data, l, 0)
			if len(x)+len(a)+len(b) != 0 || e != api.OK || f != api.OK || g != api.OK {
				t.Error(x, e, a, f, b, g)
			}
		}
	}
}
