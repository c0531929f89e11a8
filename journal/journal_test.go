package journal_test

import (
	"bytes"
	"math"
	"slices"
	"testing"

	"kist/api"
	"kist/disk"
	"kist/journal"
	"kist/sums"
)

// The journal's sectors, as the chapter tells them.
const (
	first = 2
	end   = 50
)

// low is a number's bytes, the lowest first.
func low(number, many int) []byte {
	var out []byte
	for range many {
		out = append(out, byte(number%256))
		number /= 256
	}
	return out
}

// sealed is the bytes ahead of the 252nd, and the sum that they have.
func sealed(data []byte) []byte {
	return append(bytes.Clone(data[:252]), low(sums.Crc(data[:252]), 4)...)
}

// slow is a piece's sector, the chapter told once more; also of one that may not be.
func slow(place, many, gen, number int, data []byte) []byte {
	out := slices.Concat([]byte{'J', byte(place), byte(many), byte(len(data))}, low(gen, 4), low(number, 4), data)
	for len(out) < 252 {
		out = append(out, 0)
	}
	return sealed(out)
}

// slowAll is the sectors of a record.
func slowAll(gen, number int, data []byte) [][]byte {
	many := 1
	for many*232 < len(data) {
		many++
	}
	var out [][]byte
	for place := range many {
		out = append(out, slow(place, many, gen, number, data[place*232:min(place*232+232, len(data))]))
	}
	return out
}

// bytesOf is so many bytes, none of them 0, that hang on which they are.
func bytesOf(size, which int) []byte {
	out := make([]byte, size)
	for i := range out {
		out[i] = byte(1 + (i*7+i/232+which*31)%255)
	}
	return out
}

func newDisk(t *testing.T, sectors int) *disk.Disk {
	t.Helper()
	d, e := disk.New(sectors)
	if e != api.OK {
		t.Fatalf("New(%d): %v", sectors, e)
	}
	return d
}

func newJournal(t *testing.T, d *disk.Disk, gen int) *journal.Journal {
	t.Helper()
	j, e := journal.New(d, gen)
	if e != api.OK || j == nil {
		t.Fatalf("New(%d) = %v, %v", gen, j, e)
	}
	return j
}

func appends(t *testing.T, j *journal.Journal, data []byte) {
	t.Helper()
	if e := j.Append(data); e != api.OK {
		t.Fatalf("Append of %d bytes: %v", len(data), e)
	}
}

func lay(t *testing.T, d *disk.Disk, at int, sector []byte) {
	t.Helper()
	if e := d.Write(at, sector); e != api.OK {
		t.Fatalf("Write(%d): %v", at, e)
	}
}

func has(t *testing.T, d *disk.Disk, at int, want []byte) {
	t.Helper()
	if got, e := d.Read(at); e != api.OK || !bytes.Equal(got, want) {
		t.Errorf("sector %d has %v, %v, want %v", at, got, e, want)
	}
}

func tells(t *testing.T, j *journal.Journal, room, many int) {
	t.Helper()
	if j.Room() != room || j.Many() != many {
		t.Errorf("Room %d, Many %d, want %d, %d", j.Room(), j.Many(), room, many)
	}
}

func same(a, b [][]byte) bool { return slices.EqualFunc(a, b, bytes.Equal) }

func open(t *testing.T, d *disk.Disk, gen int) [][]byte {
	t.Helper()
	got, e := journal.Open(d, gen)
	if e != api.OK {
		t.Fatalf("Open(%d): %v", gen, e)
	}
	return got
}

func opens(t *testing.T, d *disk.Disk, gen int, want ...[]byte) {
	t.Helper()
	if got := open(t, d, gen); !same(got, want) {
		t.Errorf("Open(%d) tells %d records %v, want %d", gen, len(got), got, len(want))
	}
}

// cut lets so many more writes and flushes be done.
func cut(t *testing.T, d *disk.Disk, n int) {
	t.Helper()
	if e := d.Cut(n); e != api.OK {
		t.Fatalf("Cut(%d): %v", n, e)
	}
}

func wipe(t *testing.T, d *disk.Disk) {
	t.Helper()
	if e := journal.Wipe(d); e != api.OK {
		t.Fatalf("Wipe: %v", e)
	}
}

// edges is sizes of records about which the number of pieces changes.
func edges() []int {
	return []int{0, 1, 2, 231, 232, 233, 463, 464, 465, 47*232 + 1, 48*232 - 1, 48 * 232}
}

// P11.1

func TestRefusedDisksAndGens(t *testing.T) {
	refuses := func(d *disk.Disk, gen int) {
		t.Helper()
		if j, e := journal.New(d, gen); e != api.ErrArg || j != nil {
			t.Errorf("New(%d) = %v, %v", gen, j, e)
		}
		if l, e := journal.Open(d, gen); e != api.ErrArg || l != nil {
			t.Errorf("Open(%d) = %v, %v", gen, l, e)
		}
	}
	refuses(nil, 1)
	refuses(nil, 0)
	for _, sectors := range []int{1, 2, 3, 48, 49} {
		refuses(newDisk(t, sectors), 1)
		refuses(newDisk(t, sectors), 0)
	}
	for _, gen := range []int{0, -1, 1 << 32, 1<<32 + 1, math.MinInt, math.MaxInt} {
		refuses(newDisk(t, 60), gen)
	}
}

func TestNew(t *testing.T) {
	for _, sectors := range []int{50, 51, 128, 4096} {
		for _, gen := range []int{1, 2, 255, 256, 1 << 31, api.MaxNumber - 1, api.MaxNumber} {
			d := newDisk(t, sectors)
			tells(t, newJournal(t, d, gen), 48, 0)
			opens(t, d, gen)
		}
	}
}

// What stands there, be it of that generation or of another one, is nothing to a new journal.
func TestNewReadsAndWritesNothing(t *testing.T) {
	d := newDisk(t, 50)
	appends(t, newJournal(t, d, 5), bytesOf(300, 1))
	d.Flush()
	cut(t, d, 1)
	tells(t, newJournal(t, d, 5), 48, 0)
	tells(t, newJournal(t, d, 6), 48, 0)
	if len(d.Dirty()) != 0 {
		t.Errorf("behind New %v have versions", d.Dirty())
	}
	opens(t, d, 5, bytesOf(300, 1))
	lay(t, d, 7, bytesOf(256, 1)) // the one that the cut leaves
	has(t, d, 7, bytesOf(256, 1))
}

// P11.2

func TestAppendAsTheChapterTells(t *testing.T) {
	for _, gen := range []int{1, 5, 0x01020304, api.MaxNumber} {
		for _, size := range edges() {
			d := newDisk(t, 60)
			j := newJournal(t, d, gen)
			appends(t, j, bytesOf(size, 1))
			want := slowAll(gen, 1, bytesOf(size, 1))
			tells(t, j, 48-len(want), 1)
			for i, sector := range want {
				has(t, d, first+i, sector)
			}
			for at := range 60 {
				if at < first || at >= first+len(want) {
					has(t, d, at, make([]byte, 256))
				}
			}
		}
	}
}

func TestAppendHead(t *testing.T) {
	d := newDisk(t, 50)
	j := newJournal(t, d, 0x01020304)
	appends(t, j, nil)
	appends(t, j, bytesOf(235, 1))
	for at, want := range map[int][]byte{
		2: {'J', 0, 1, 0, 4, 3, 2, 1, 1, 0, 0, 0, 0},
		3: append([]byte{'J', 0, 2, 232, 4, 3, 2, 1, 2, 0, 0, 0}, bytesOf(235, 1)[:232]...),
		4: append([]byte{'J', 1, 2, 3, 4, 3, 2, 1, 2, 0, 0, 0}, bytesOf(235, 1)[232:]...),
	} {
		if got, _ := d.Read(at); !bytes.Equal(got[:len(want)], want) || !bytes.Equal(got[244:252], make([]byte, 8)) {
			t.Errorf("sector %d has %v, want %v", at, got, want)
		}
	}
}

// Record stands behind record, with the next number, over whatever lay there.
func TestAppendBehindOthers(t *testing.T) {
	d := newDisk(t, 50)
	for at := range 50 {
		lay(t, d, at, bytesOf(256, 9))
	}
	j := newJournal(t, d, 7)
	at := first
	var all [][]byte
	for i, size := range []int{0, 232, 233, 1, 1000, 0, 464, 465} {
		data := bytesOf(size, i)
		appends(t, j, data)
		for _, sector := range slowAll(7, i+1, data) {
			has(t, d, at, sector)
			at++
		}
		has(t, d, at, bytesOf(256, 9))
		all = append(all, data)
		tells(t, j, end-at, i+1)
		opens(t, d, 7, all...)
	}
	has(t, d, 0, bytesOf(256, 9))
	has(t, d, 1, bytesOf(256, 9))
}

func TestAppendRefuses(t *testing.T) {
	for left := range 49 {
		d := newDisk(t, 52)
		j := newJournal(t, d, 3)
		many := 0
		var all [][]byte
		if left < 48 {
			all = append(all, bytesOf((48-left)*232, 1))
			appends(t, j, all[0])
			many = 1
		}
		d.Flush()
		sizes := []int{left*232 + 1, left*232 + 232, (left+1)*232 + 1, 49 * 232, 256 * 232, 257 * 232, 65536*232 + 1}
		if left == 0 {
			sizes = append(sizes, 0)
		}
		for _, size := range sizes {
			if e := j.Append(make([]byte, size)); e != api.ErrBig {
				t.Errorf("%d left: Append of %d bytes = %v", left, size, e)
			}
			tells(t, j, left, many)
		}
		if len(d.Dirty()) != 0 {
			t.Errorf("%d left: a refused Append wrote into %v", left, d.Dirty())
		}
		opens(t, d, 3, all...)
		if left > 0 { // what is not too much still goes in, with the next number
			appends(t, j, bytesOf(left*232, 2))
			tells(t, j, 0, many+1)
			opens(t, d, 3, append(all, bytesOf(left*232, 2))...)
		}
		for at := end; at < 52; at++ {
			has(t, d, at, make([]byte, 256))
		}
	}
}

func TestAsManyAsMayBe(t *testing.T) {
	d := newDisk(t, 50)
	j := newJournal(t, d, 3)
	var all [][]byte
	for i := range 48 {
		all = append(all, bytesOf(i%3, i))
		appends(t, j, all[i])
		tells(t, j, 47-i, i+1)
	}
	if e := j.Append(nil); e != api.ErrBig {
		t.Errorf("Append behind the end = %v", e)
	}
	opens(t, d, 3, all...)
}

func TestAppendDoesNotFlush(t *testing.T) {
	d := newDisk(t, 60)
	lay(t, d, 55, bytesOf(256, 1))
	j := newJournal(t, d, 5)
	appends(t, j, bytesOf(300, 1))
	appends(t, j, nil)
	if !slices.Equal(d.Dirty(), []int{2, 3, 4, 55}) {
		t.Errorf("behind Append %v have versions", d.Dirty())
	}
	d.Power(nil)
	opens(t, d, 5)
	tells(t, j, 45, 2)
}

// Each piece is one write.
func TestAppendUnderACut(t *testing.T) {
	for left := range 6 {
		d := newDisk(t, 60)
		j := newJournal(t, d, 5)
		cut(t, d, left)
		appends(t, j, bytesOf(4*232, 1))
		tells(t, j, 44, 1)
		if many := len(d.Dirty()); many != min(left, 4) {
			t.Errorf("%d left: %d pieces were written", left, many)
		}
		lay(t, d, 55, bytesOf(256, 1))
		if slices.Contains(d.Dirty(), 55) != (left > 4) {
			t.Errorf("%d left: behind 4 pieces %v have versions", left, d.Dirty())
		}
	}
}

func TestExamples(t *testing.T) {
	d := newDisk(t, 60)
	j := newJournal(t, d, 5)
	appends(t, j, bytesOf(300, 1))
	tells(t, j, 46, 1)
	appends(t, j, nil)
	tells(t, j, 45, 2)
	opens(t, d, 5, bytesOf(300, 1), nil)
	opens(t, d, 6)
	if e := j.Append(bytesOf(45*232+1, 1)); e != api.ErrBig {
		t.Errorf("Append of 45 times 232 bytes and one = %v", e)
	}
	d.Power(nil)
	opens(t, d, 5)
}
