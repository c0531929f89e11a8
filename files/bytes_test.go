package files_test

import (
	"bytes"
	"fmt"
	"math"
	"math/rand"
	"slices"
	"testing"

	"kist/api"
	"kist/cut"
)

// noise is bytes of chance, which no packing makes shorter.
func noise(seed int64, many int) []byte {
	data := make([]byte, many)
	rand.New(rand.NewSource(seed)).Read(data)
	return data
}

// P18.4
func TestWriteIsRefused(t *testing.T) {
	g := newGround(t, 200, 9)
	v := g.some()
	for _, l := range []struct {
		path string
		off  int
		many int
		want api.Errno
	}{
		{"/d/f", -1, 1, api.ErrArg}, {"/d/f", math.MinInt, 0, api.ErrArg}, {"/d/f", -1, 1025, api.ErrArg}, {"x", -1, 1, api.ErrArg}, {"/", -1, 1, api.ErrArg},
		{"/d/f", 0, 1025, api.ErrBig}, {"/d/f", 8192, 1, api.ErrBig}, {"/d/f", 8193, 0, api.ErrBig}, {"/d/f", 7169, 1024, api.ErrBig},
		{"/d/f", math.MaxInt, 0, api.ErrBig}, {"/d/f", math.MaxInt, 1024, api.ErrBig}, {"x", 8192, 1, api.ErrBig}, {"/x", 0, 2000, api.ErrBig}, {"/d", 9000, 0, api.ErrBig},
		{"/", 0, 1, api.ErrDir}, {"/d", 0, 0, api.ErrDir}, {"/d/e/h", 8192, 0, api.ErrDir},
	} {
		g.refused(l.want)(g.f.Write(v, l.path, l.off, make([]byte, l.many)))
	}
	g.has(v, "/d/f", []byte("abc"))
}

// P18.4
func TestTruncateIsRefused(t *testing.T) {
	g := newGround(t, 200, 9)
	v := g.some()
	for _, l := range []struct {
		path string
		size int
		want api.Errno
	}{
		{"/d/f", -1, api.ErrArg}, {"/d/f", math.MinInt, api.ErrArg}, {"x", -1, api.ErrArg}, {"/d", -1, api.ErrArg},
		{"/d/f", 8193, api.ErrBig}, {"/d/f", math.MaxInt, api.ErrBig}, {"x", 8193, api.ErrBig}, {"/x", 9000, api.ErrBig}, {"/d", 8193, api.ErrBig},
		{"/", 0, api.ErrDir}, {"/d", 0, api.ErrDir}, {"/d/e/h", 8192, api.ErrDir},
	} {
		g.refused(l.want)(g.f.Truncate(v, l.path, l.size))
	}
	g.has(v, "/d/f", []byte("abc"))
}

// kinds is rows of bytes that are cut in unlike ways.
func kinds() map[string]func(int) []byte {
	return map[string]func(int) []byte{
		"noise": func(many int) []byte { return noise(9, many) },
		"zero":  func(many int) []byte { return make([]byte, many) },
		"text": func(many int) []byte {
			return bytes.Repeat([]byte("a text that comes again; "), many/25+1)[:many]
		},
	}
}

// written is what a file has when bytes are written into it.
func written(data []byte, off int, more []byte) []byte {
	if len(more) == 0 {
		return data
	}
	out := make([]byte, max(len(data), off+len(more)))
	copy(out, data)
	copy(out[off:], more)
	return out
}

// P18.4: files of all sizes about those of chunks, written at all places about these, up to the last byte that may be.
func TestWrite(t *testing.T) {
	for kind, of := range kinds() {
		g := newGround(t, 3000, 32)
		before := empty()
		for i, size := range []int{0, 1, 63, 512, 513, 1600, 8191, 8192} {
			path, data := fmt.Sprint("/", i), of(size)
			before = g.filled(before, path, data)
			for _, off := range []int{0, 1, 64, 511, 512, 1500, 7168, 8191, 8192} {
				for _, many := range []int{0, 1, 2, 600, 1024} {
					if off+many > 8192 {
						continue
					}
					more := noise(int64(off+many), many)
					v := g.ok(g.f.Write(before, path, off, more))
					g.has(v, path, written(data, off, more))
				}
				g.collect(before)
			}
			g.has(before, path, data)
			if t.Failed() {
				t.Fatalf("%s, %d bytes", kind, size)
			}
		}
	}
}

// P18.4
func TestTruncate(t *testing.T) {
	for kind, of := range kinds() {
		g := newGround(t, 3000, 32)
		before := empty()
		sizes := []int{0, 1, 63, 64, 511, 512, 513, 1024, 1600, 8191, 8192}
		for i, size := range sizes {
			path, data := fmt.Sprint("/", i), of(size)
			before = g.filled(before, path, data)
			for _, other := range sizes {
				want := make([]byte, other)
				copy(want, data)
				v := g.ok(g.f.Truncate(before, path, other))
				g.has(v, path, want)
				v = g.ok(g.f.Truncate(v, path, size))
				copy(want[min(size, other):], make([]byte, other))
				g.has(v, path, append(want[:min(size, other)], make([]byte, size-min(size, other))...))
			}
			g.collect(before)
			g.has(before, path, data)
			if t.Failed() {
				t.Fatalf("%s, %d bytes", kind, size)
			}
		}
	}
}

// P18.4: what a shorter file had is not there again when it is lengthened, by Write or by Truncate.
func TestNothingComesBack(t *testing.T) {
	g := newGround(t, 300, 9)
	v := g.filled(empty(), "/f", noise(1, 2000))
	v = g.ok(g.f.Truncate(v, "/f", 700))
	w := g.ok(g.f.Truncate(v, "/f", 1500))
	g.has(w, "/f", slices.Concat(noise(1, 2000)[:700], make([]byte, 800)))
	w = g.ok(g.f.Write(v, "/f", 1999, []byte("x")))
	g.has(w, "/f", slices.Concat(noise(1, 2000)[:700], make([]byte, 1299), []byte("x")))
}

// P18.4: of no bytes, or of those that stand there, the file stays, and no block is taken.
func TestWritesThatChangeNothing(t *testing.T) {
	g := newGround(t, 300, 9)
	v := g.filled(g.some(), "/big", noise(1, 3000))
	was := g.m.Free()
	for _, off := range []int{0, 2999, 3000, 3001, 8192} {
		if w := g.ok(g.f.Write(v, "/big", off, nil)); w != v {
			t.Errorf("Write of nothing at %d made %v out of %v", off, w, v)
		}
		if w := g.ok(g.f.Write(v, "/g", off, []byte{})); w != v {
			t.Errorf("Write of nothing at %d made %v out of %v", off, w, v)
		}
	}
	for _, off := range []int{0, 1, 500, 1976} {
		w := g.ok(g.f.Write(v, "/big", off, noise(1, 3000)[off:off+1024]))
		g.has(w, "/big", noise(1, 3000))
	}
	w := g.ok(g.f.Truncate(v, "/big", 3000))
	g.has(w, "/big", noise(1, 3000))
	if free := g.m.Free(); free != was {
		t.Errorf("%d blocks are free, were %d", free, was)
	}
}

// placed is the chunks of a file, as its keys tell them, by an inode.
func (g *ground) placed(v api.Version, inode int) []api.Chunk {
	g.t.Helper()
	entries, e := g.x.Scan(v.Root, "x", "y", math.MaxInt)
	if e != api.OK {
		g.t.Fatal(e)
	}
	var out []api.Chunk
	for _, entry := range entries {
		if entry.Key[:4] == string([]byte{'x', byte(inode >> 16), byte(inode >> 8), byte(inode)}) {
			val := entry.Val
			out = append(out, api.Chunk{Block: int(val[0])<<8 | int(val[1]), Len: int(val[2])<<8 | int(val[3])})
		}
	}
	return out
}

// P18.7: of files with like and unlike bytes, some of which are gone.
func TestChunks(t *testing.T) {
	g := newGround(t, 900, 9)
	v := empty()
	for i := range 12 {
		v = g.filled(v, fmt.Sprint("/", i), noise(int64(i%5), 700+100*(i%5)))
	}
	v = g.ok(g.f.Truncate(v, "/11", 8000))
	v = g.ok(g.f.Unlink(v, "/4"))
	v = g.ok(g.f.Unlink(v, "/9"))
	var want []api.Chunk
	for inode := 1; inode <= 12; inode++ {
		want = append(want, g.placed(v, inode)...)
	}
	many := len(want)
	slices.SortFunc(want, func(a, b api.Chunk) int { return a.Block - b.Block })
	want = slices.Compact(want)
	if len(want) == many || len(want) < 10 {
		t.Fatalf("of %d chunks %d are unlike", many, len(want))
	}
	if got, e := g.f.Chunks(v); e != api.OK || !slices.Equal(got, want) {
		t.Errorf("Chunks() = %v, %v, want %v", got, e, want)
	}
	if l, e := g.f.Chunks(g.dir(g.file(empty(), "/f"), "/d")); len(l) != 0 || e != api.OK {
		t.Errorf("without bytes Chunks() = %v, %v", l, e)
	}
}

// P18.7: the first and the last place that a key may tell, of the first and the last inode.
func TestChunksAtTheEdges(t *testing.T) {
	g := newGround(t, 100, 9)
	v := g.with(g.with(empty(), "w\xff", "\x00\x37\x00\x07"), "y", "\x00\x38\x00\x08")
	v = g.with(v, "x\x00\x00\x00\x00\x00", "\x00\x34\x00\x04")
	v = g.with(v, "x\x00\x00\x01\x00\x00", "\xff\xff\x02\x00")
	v = g.with(v, "x\xff\xff\xff\xff\xff", "\x00\x33\x00\x01")
	want := []api.Chunk{{Block: 0x33, Len: 1}, {Block: 0x34, Len: 4}, {Block: 0xffff, Len: 512}}
	if got, e := g.f.Chunks(v); e != api.OK || !slices.Equal(got, want) {
		t.Errorf("Chunks() = %v, %v, want %v", got, e, want)
	}
}

// P18.9: written at once, piece by piece, from the end on, over other bytes, or made shorter or longer: what is the same has the same chunks, as cut.Cut cuts them.
func TestSameBytesHaveTheSameChunks(t *testing.T) {
	for _, data := range [][]byte{noise(4, 4000), slices.Concat(noise(5, 700), make([]byte, 3000), noise(6, 300))} {
		g := newGround(t, 3000, 9)
		v := g.filled(empty(), "/0", data)
		v = g.filled(v, "/1", data)
		v = g.ok(g.f.Truncate(g.file(v, "/2"), "/2", len(data)))
		for at := len(data) - 500; at >= 0; at -= 500 {
			v = g.ok(g.f.Write(v, "/2", at, data[at:at+500]))
		}
		v = g.filled(v, "/3", noise(7, 4200))
		for at := 0; at < len(data); at += 800 {
			v = g.ok(g.f.Write(v, "/3", at, data[at:at+800]))
		}
		v = g.ok(g.f.Truncate(v, "/3", len(data)))
		other := g.filled(empty(), "/4", data)
		want := g.placed(v, 1)
		for i := 2; i <= 4; i++ {
			if got := g.placed(v, i); !slices.Equal(got, want) {
				t.Errorf("the chunks of inode %d are %v, want %v", i, got, want)
			}
		}
		if got := g.placed(other, 1); !slices.Equal(got, want) {
			t.Errorf("the chunks of another version are %v, want %v", got, want)
		}
		var lengths []int
		for _, c := range want {
			lengths = append(lengths, c.Len)
		}
		if !slices.Equal(lengths, cut.Cut(data)) {
			t.Errorf("the lengths are %v, want %v", lengths, cut.Cut(data))
		}
		g.collect(v)
		if all := slices.Compact(firsts(want)); g.s.Known() != len(all) {
			t.Errorf("known are %d chunks, all that there are begin at %v", g.s.Known(), all)
		}
		if got := g.placed(g.filled(v, "/5", data), 5); !slices.Equal(got, want) {
			t.Errorf("the chunks of inode 5 are %v, want %v", got, want)
		}
	}
}

func firsts(list []api.Chunk) []int {
	var out []int
	for _, c := range list {
		out = append(out, c.Block)
	}
	slices.Sort(out)
	return out
}

// R4
func TestWhatIsHandedInStays(t *testing.T) {
	g := newGround(t, 300, 9)
	v := g.file(empty(), "/f")
	wide := noise(1, 2000)
	before := slices.Clone(wide)
	v = g.ok(g.f.Write(v, "/f", 3, wide[:600]))
	v = g.ok(g.f.Write(v, "/f", 700, wide[600:1000]))
	if !bytes.Equal(wide, before) {
		t.Error("the bytes that were written, or their spare room, were changed")
	}
	clear(wide)
	g.has(v, "/f", slices.Concat(make([]byte, 3), before[:600], make([]byte, 97), before[600:1000]))
}

// R4
func TestAnswersAreNewMemory(t *testing.T) {
	g := newGround(t, 300, 9)
	v := g.filled(g.some(), "/big", noise(1, 2000))
	data, _ := g.f.Read(v, "/big", 0, 9000)
	other, _ := g.f.Read(v, "/big", 0, 9000)
	clear(data[:cap(data)])
	if !bytes.Equal(other, noise(1, 2000)) {
		t.Error("two answers of Read share their memory")
	}
	g.has(v, "/big", noise(1, 2000))
	l, _ := g.f.List(v, "/")
	clear(l[:cap(l)])
	g.lists(v, "/", "big", "d", "g")
	c, _ := g.f.Chunks(v)
	again, _ := g.f.Chunks(v)
	clear(c[:cap(c)])
	if now, e := g.f.Chunks(v); e != api.OK || !slices.Equal(now, again) {
		t.Errorf("Chunks() = %v, want %v", now, again)
	}
}
