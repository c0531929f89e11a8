package disk_test

import (
	"bytes"
	"math"
	"math/rand"
	"slices"
	"testing"

	"kist/api"
	"kist/disk"
)

func anySector(chance *rand.Rand) []byte {
	data := make([]byte, 256)
	chance.Read(data)
	return data
}

func full(b byte) []byte { return bytes.Repeat([]byte{b}, 256) }

func newDisk(t *testing.T, sectors int) *disk.Disk {
	t.Helper()
	d, e := disk.New(sectors)
	if e != api.OK {
		t.Fatalf("New(%d): %v", sectors, e)
	}
	return d
}

func write(t *testing.T, d *disk.Disk, at int, data []byte) {
	t.Helper()
	if e := d.Write(at, data); e != api.OK {
		t.Fatalf("Write(%d): %v", at, e)
	}
}

func cutTo(t *testing.T, d *disk.Disk, n int) {
	t.Helper()
	if e := d.Cut(n); e != api.OK {
		t.Fatalf("Cut(%d): %v", n, e)
	}
}

func has(t *testing.T, d *disk.Disk, at int, want []byte) {
	t.Helper()
	if got, e := d.Read(at); e != api.OK || !bytes.Equal(got, want) {
		t.Errorf("Read(%d) = %x, %v, want %x", at, got, e, want)
	}
}

func dirty(t *testing.T, d *disk.Disk, want ...int) {
	t.Helper()
	if got := d.Dirty(); !slices.Equal(got, want) {
		t.Errorf("Dirty() = %v, want %v", got, want)
	}
}

// slow is the chapter told once more: one row of all writes since the last flush, searched for each thing that is asked.
type slow struct {
	lies  [][]byte
	row   []slowWrite
	allow int // below 0: nothing is cut
}

type slowWrite struct {
	at   int
	data []byte
}

func newSlow(sectors int) *slow {
	s := &slow{allow: -1}
	for range sectors {
		s.lies = append(s.lies, make([]byte, 256))
	}
	return s
}

func (s *slow) ofSector(at int) [][]byte {
	var out [][]byte
	for _, w := range s.row {
		if w.at == at {
			out = append(out, w.data)
		}
	}
	return out
}

func (s *slow) read(at int) []byte {
	all := append([][]byte{s.lies[at]}, s.ofSector(at)...)
	return all[len(all)-1]
}

func (s *slow) spend() bool {
	if s.allow > 0 {
		s.allow--
		return true
	}
	return s.allow < 0
}

func (s *slow) write(at int, data []byte) {
	if s.spend() {
		s.row = append(s.row, slowWrite{at, slices.Clone(data)})
	}
}

func (s *slow) flush() {
	if !s.spend() {
		return
	}
	for _, w := range s.row {
		s.lies[w.at] = w.data
	}
	s.row = nil
}

func (s *slow) cut(n int) {
	if s.allow < 0 || n < s.allow {
		s.allow = n
	}
}

func (s *slow) dirty() []int {
	var out []int
	for at := range s.lies {
		if len(s.ofSector(at)) > 0 {
			out = append(out, at)
		}
	}
	return out
}

func (s *slow) power(picks []int) {
	for k, at := range s.dirty() {
		pick, all := 0, append([][]byte{s.lies[at]}, s.ofSector(at)...)
		if k < len(picks) {
			pick = picks[k]
		}
		for pick < 0 {
			pick += len(all)
		}
		for pick >= len(all) {
			pick -= len(all)
		}
		s.lies[at] = all[pick]
	}
	s.row, s.allow = nil, -1
}

func (s *slow) rot(bit int) {
	at := bit / 2048
	for _, data := range append([][]byte{s.lies[at]}, s.ofSector(at)...) {
		data[bit%2048/8] ^= byte(1 << (bit % 8))
	}
}

func (s *slow) copied() *slow {
	out := &slow{allow: -1}
	for _, data := range s.lies {
		out.lies = append(out.lies, slices.Clone(data))
	}
	for _, w := range s.row {
		out.row = append(out.row, slowWrite{w.at, slices.Clone(w.data)})
	}
	return out
}

// alike holds a disk against the slow one in all that can be asked.
func alike(t *testing.T, d *disk.Disk, s *slow) {
	t.Helper()
	if d.Size() != len(s.lies) {
		t.Fatalf("Size() = %d, want %d", d.Size(), len(s.lies))
	}
	if got, want := d.Dirty(), s.dirty(); !slices.Equal(got, want) {
		t.Fatalf("Dirty() = %v, want %v", got, want)
	}
	for at := range s.lies {
		if got, e := d.Read(at); e != api.OK || !bytes.Equal(got, s.read(at)) {
			t.Fatalf("Read(%d) = %x, %v, want %x", at, got, e, s.read(at))
		}
	}
}

func anyPicks(chance *rand.Rand, size int) []int {
	picks := make([]int, chance.Intn(size+2))
	for i := range picks {
		picks[i] = chance.Intn(41) - 20
	}
	return picks
}

// anyStep does the same, by chance, to both.
func anyStep(chance *rand.Rand, d *disk.Disk, s *slow) {
	size := len(s.lies)
	switch chance.Intn(20) {
	case 0, 1:
		d.Flush()
		s.flush()
	case 2:
		n := chance.Intn(12)
		d.Cut(n)
		s.cut(n)
	case 3:
		picks := anyPicks(chance, size)
		d.Power(picks)
		s.power(picks)
	case 4, 5:
		bit := chance.Intn(2048 * size)
		d.Rot(bit)
		s.rot(bit)
	case 6:
		d.Write(size, full(1))
		d.Write(chance.Intn(size), full(1)[:chance.Intn(256)])
		d.Rot(-1)
		d.Cut(-1)
	default:
		at, data := chance.Intn(size), anySector(chance)
		d.Write(at, data)
		s.write(at, data)
	}
}

func TestDiskIsTheDocuments(t *testing.T) {
	chance := rand.New(rand.NewSource(81))
	for range 200 {
		size := 1 + chance.Intn(7)
		d, s := newDisk(t, size), newSlow(size)
		for range 120 {
			anyStep(chance, d, s)
			alike(t, d, s)
			if chance.Intn(40) == 0 {
				d, s = d.Copy(), s.copied()
			}
		}
	}
}

// P8.1

func TestNewRefusesOtherSizes(t *testing.T) {
	for _, sectors := range []int{math.MinInt, -1, 0, 4097, 1 << 40, math.MaxInt} {
		if d, e := disk.New(sectors); d != nil || e != api.ErrArg {
			t.Errorf("New(%d) = %v, %v", sectors, d, e)
		}
	}
}

func TestNewHasNoughtsAndNothingWritten(t *testing.T) {
	for _, sectors := range []int{1, 2, 9, 128, 4095, 4096} {
		d := newDisk(t, sectors)
		if d.Size() != sectors {
			t.Errorf("Size() = %d, want %d", d.Size(), sectors)
		}
		for at := range sectors {
			has(t, d, at, full(0))
		}
		dirty(t, d)
	}
}

func TestSizeStays(t *testing.T) {
	d := newDisk(t, 9)
	write(t, d, 8, full(1))
	d.Flush()
	d.Power([]int{1})
	cutTo(t, d, 0)
	if d.Size() != 9 || d.Copy().Size() != 9 {
		t.Errorf("Size() = %d, of the copy %d", d.Size(), d.Copy().Size())
	}
}

// P8.2

func TestReadOnlyWhatThereIs(t *testing.T) {
	d := newDisk(t, 9)
	for _, at := range []int{math.MinInt, -1, 9, 10, 4096, math.MaxInt} {
		if data, e := d.Read(at); len(data) != 0 || e != api.ErrRange {
			t.Errorf("Read(%d) = %x, %v", at, data, e)
		}
	}
	has(t, d, 0, full(0))
	has(t, d, 8, full(0))
}

func TestWriteRefused(t *testing.T) {
	d := newDisk(t, 9)
	for _, l := range []struct {
		at, size int
		want     api.Errno
	}{
		{-1, 256, api.ErrRange},
		{9, 256, api.ErrRange},
		{math.MinInt, 256, api.ErrRange},
		{math.MaxInt, 256, api.ErrRange},
		{9, 0, api.ErrRange}, // both: the place is named first
		{-1, 257, api.ErrRange},
		{0, 0, api.ErrArg},
		{0, 255, api.ErrArg},
		{8, 257, api.ErrArg},
		{8, 512, api.ErrArg},
	} {
		if e := d.Write(l.at, bytes.Repeat([]byte{1}, l.size)); e != l.want {
			t.Errorf("Write(%d, %d bytes) = %v, want %v", l.at, l.size, e, l.want)
		}
	}
	if e := d.Write(3, nil); e != api.ErrArg {
		t.Errorf("Write(3, nil) = %v", e)
	}
	dirty(t, d)
	for at := range 9 {
		has(t, d, at, full(0))
	}
}

func TestReadIsTheLastVersion(t *testing.T) {
	d := newDisk(t, 9)
	for b := range byte(20) {
		write(t, d, 0, full(b))
		write(t, d, 8, full(b+100))
		has(t, d, 0, full(b))
		has(t, d, 8, full(b+100))
	}
	d.Flush()
	has(t, d, 0, full(19))
	has(t, d, 8, full(119))
	write(t, d, 0, full(77))
	has(t, d, 0, full(77))
}

func TestDirtyRises(t *testing.T) {
	d := newDisk(t, 4096)
	want := []int{}
	for i := range 1000 {
		at := (i*1237 + 5) % 4096
		write(t, d, at, full(1))
		want = append(want, at)
	}
	write(t, d, want[3], full(2)) // once more: it is told once
	slices.Sort(want)
	dirty(t, d, want...)
	d.Flush()
	dirty(t, d)
}

// A version is one, though it is just what lies there.
func TestTheSameBytesAreAVersion(t *testing.T) {
	d := newDisk(t, 9)
	write(t, d, 4, full(0))
	dirty(t, d, 4)
	write(t, d, 4, full(1))
	write(t, d, 4, full(1))
	d.Power([]int{4}) // by 3 versions: 0
	has(t, d, 4, full(0))
	dirty(t, d)
}

func TestFlushLeavesNoVersions(t *testing.T) {
	d := newDisk(t, 9)
	write(t, d, 4, full(1))
	write(t, d, 4, full(2))
	d.Flush()
	dirty(t, d)
	write(t, d, 4, full(3))
	dirty(t, d, 4)
	d.Power([]int{3}) // by the one version behind the flush: 1
	has(t, d, 4, full(3))
	write(t, d, 4, full(4))
	d.Power(nil)
	has(t, d, 4, full(3))
}

// P8.3

func TestCutRefused(t *testing.T) {
	d := newDisk(t, 9)
	for _, n := range []int{math.MinInt, -1, 1<<30 + 1, math.MaxInt} {
		if e := d.Cut(n); e != api.ErrArg {
			t.Errorf("Cut(%d) = %v", n, e)
		}
	}
	write(t, d, 1, full(1))
	has(t, d, 1, full(1))
	cutTo(t, d, 1<<30)
	write(t, d, 1, full(2))
	has(t, d, 1, full(2))
	cutTo(t, d, 1)
	if e := d.Cut(-1); e != api.ErrArg {
		t.Errorf("Cut(-1) = %v", e)
	}
	write(t, d, 1, full(3))
	has(t, d, 1, full(3))
	write(t, d, 1, full(4))
	has(t, d, 1, full(3))
}

func TestCutLetsTheFirstBeDone(t *testing.T) {
	for n := range 8 {
		d := newDisk(t, 9)
		cutTo(t, d, n)
		for b := range byte(10) {
			write(t, d, 5, full(b+1))
			has(t, d, 5, full(min(b+1, byte(n))))
		}
		d.Flush()
		if n == 0 {
			dirty(t, d)
		} else {
			dirty(t, d, 5)
		}
		d.Power([]int{n})
		has(t, d, 5, full(byte(n)))
	}
}

func TestCutCountsFlushes(t *testing.T) {
	d := newDisk(t, 9)
	cutTo(t, d, 3)
	d.Flush() // also one with nothing to do
	write(t, d, 5, full(1))
	d.Flush()
	dirty(t, d)
	write(t, d, 5, full(2))
	dirty(t, d)
	has(t, d, 5, full(1))
	d.Power(nil)
	has(t, d, 5, full(1))
}

func TestCutFlushDoesNothing(t *testing.T) {
	d := newDisk(t, 9)
	write(t, d, 5, full(1))
	cutTo(t, d, 0)
	d.Flush()
	dirty(t, d, 5)
	d.Power(nil)
	has(t, d, 5, full(0))
}

func TestCutCountsNoRefusal(t *testing.T) {
	d := newDisk(t, 9)
	cutTo(t, d, 1)
	d.Write(9, full(1))
	d.Write(5, full(1)[1:])
	d.Read(5)
	d.Dirty()
	d.Rot(0)
	d.Copy()
	write(t, d, 5, full(7))
	has(t, d, 5, full(7))
	if e := d.Write(9, full(1)); e != api.ErrRange {
		t.Errorf("Write(9) behind the cut = %v", e)
	}
	if e := d.Write(5, nil); e != api.ErrArg {
		t.Errorf("Write(5, nil) behind the cut = %v", e)
	}
	write(t, d, 5, full(8))
	has(t, d, 5, full(7))
}

// Of two cuts the one that leaves less counts, whichever came first.
func TestCutBehindAnother(t *testing.T) {
	for _, l := range []struct{ first, between, second, left int }{
		{5, 0, 2, 2},
		{2, 0, 5, 2},
		{5, 4, 3, 1},
		{5, 4, 0, 0},
		{5, 5, 9, 0},
		{0, 2, 1 << 30, 0},
		{3, 1, 2, 2},
	} {
		d := newDisk(t, 9)
		cutTo(t, d, l.first)
		for range l.between {
			d.Flush()
		}
		cutTo(t, d, l.second)
		for b := range byte(10) {
			write(t, d, 5, full(b+1))
		}
		has(t, d, 5, full(byte(l.left)))
	}
}

func TestPowerEndsTheCut(t *testing.T) {
	for _, n := range []int{0, 1, 5} {
		d := newDisk(t, 9)
		cutTo(t, d, n)
		d.Power(nil)
		for b := range byte(10) {
			write(t, d, 5, full(b+1))
		}
		has(t, d, 5, full(10))
		d.Flush()
		dirty(t, d)
		cutTo(t, d, 2) // what the cut ahead left is no matter any more
		write(t, d, 5, full(20))
		write(t, d, 5, full(21))
		write(t, d, 5, full(22))
		has(t, d, 5, full(21))
	}
}

func TestExamples(t *testing.T) {
	d := newDisk(t, 9)
	write(t, d, 3, full('x'))
	write(t, d, 3, full('y'))
	write(t, d, 5, full('z'))
	dirty(t, d, 3, 5)
	d.Power([]int{1, 2})
	has(t, d, 3, full('x'))
	has(t, d, 5, full(0))
	write(t, d, 3, full('y'))
	d.Flush()
	d.Power(nil)
	has(t, d, 3, full('y'))
	cutTo(t, d, 1)
	write(t, d, 3, full('x'))
	write(t, d, 3, full('z'))
	d.Flush()
	has(t, d, 3, full('x'))
	d.Power([]int{1})
	has(t, d, 3, full('x'))
	if e := d.Rot(2048*3 + 8); e != api.OK {
		t.Error(e)
	}
	has(t, d, 3, append([]byte{'x', 'x' ^ 1}, full('x')[2:]...))
}

// Each pick, also below 0 and at the ends of what an int may be, by its remainder.
func TestPowerPicks(t *testing.T) {
	for versions := 1; versions <= 6; versions++ {
		picks := []int{math.MinInt, math.MinInt + 1, math.MaxInt - 1, math.MaxInt}
		for pick := -20; pick <= 20; pick++ {
			picks = append(picks, pick)
		}
		for _, pick := range picks {
			d := newDisk(t, 9)
			write(t, d, 2, full(100))
			d.Flush()
			for b := range byte(versions) {
				write(t, d, 2, full(101+b))
			}
			d.Power([]int{pick})
			by := versions + 1
			rest := pick % by
			if rest < 0 {
				rest += by
			}
			has(t, d, 2, full(byte(100+rest)))
			dirty(t, d)
		}
	}
}

// The picks go to the sectors that have versions alone, rising, whatever was written first.
func TestPowerPicksRise(t *testing.T) {
	d := newDisk(t, 4096)
	for _, at := range []int{4095, 7, 0, 300, 12} {
		write(t, d, at, full(1))
		write(t, d, at, full(2))
	}
	d.Power([]int{1, 2, 0, 1, 2, 2, 2})
	for at, want := range map[int]byte{0: 1, 7: 2, 12: 0, 300: 1, 4095: 2, 1: 0, 4094: 0} {
		has(t, d, at, full(want))
	}
}

func TestPowerWithFewerPicks(t *testing.T) {
	for many := range 4 {
		d := newDisk(t, 9)
		for at := range 3 {
			write(t, d, at, full(1))
		}
		d.Power([]int{1, 1, 1}[:many])
		for at := range 3 {
			want := byte(0)
			if at < many {
				want = 1
			}
			has(t, d, at, full(want))
		}
		dirty(t, d)
	}
}

// P8.4

func TestRotRefused(t *testing.T) {
	d := newDisk(t, 9)
	for _, bit := range []int{math.MinInt, -2048, -1, 2048 * 9, 2048*9 + 1, 2048 * 4096, math.MaxInt} {
		if e := d.Rot(bit); e != api.ErrRange {
			t.Errorf("Rot(%d) = %v", bit, e)
		}
	}
	for at := range 9 {
		has(t, d, at, full(0))
	}
}

func TestRotTurnsThatBitAlone(t *testing.T) {
	d := newDisk(t, 3)
	for bit := range 2048 * 3 {
		if e := d.Rot(bit); e != api.OK {
			t.Fatalf("Rot(%d) = %v", bit, e)
		}
		for at := range 3 {
			want := full(0)
			if at == bit/2048 {
				want[bit%2048/8] = 1 << (bit % 8)
			}
			has(t, d, at, want)
		}
		dirty(t, d)
		d.Rot(bit) // turned back
	}
	for at := range 3 {
		has(t, d, at, full(0))
	}
}

// The bit is turned in what lies there and in each version: it is, whichever persists.
func TestRotTurnsEachVersion(t *testing.T) {
	for pick := range 4 {
		d := newDisk(t, 9)
		write(t, d, 2, full(100))
		write(t, d, 3, full(100))
		d.Flush()
		for b := range byte(3) {
			write(t, d, 2, full(101+b))
			write(t, d, 3, full(101+b))
		}
		if e := d.Rot(2048*2 + 8*255 + 7); e != api.OK {
			t.Fatal(e)
		}
		dirty(t, d, 2, 3)
		d.Power([]int{pick, pick})
		want := full(byte(100 + pick))
		has(t, d, 3, want)
		want[255] ^= 128
		has(t, d, 2, want)
	}
}

// A version that is written later is as it was handed in; what lies below it stays turned.
func TestRotAheadOfAWrite(t *testing.T) {
	for pick := range 2 {
		d := newDisk(t, 9)
		d.Rot(2048 * 2)
		write(t, d, 2, full(6))
		has(t, d, 2, full(6))
		d.Power([]int{pick})
		if pick == 1 {
			has(t, d, 2, full(6))
		} else {
			has(t, d, 2, append([]byte{1}, full(0)[1:]...))
		}
	}
}

func TestRotIsNotCut(t *testing.T) {
	d := newDisk(t, 9)
	cutTo(t, d, 0)
	d.Rot(0)
	has(t, d, 0, append([]byte{1}, full(0)[1:]...))
}

// some is a disk in which something lies and some sectors have versions.
func some(t *testing.T) *disk.Disk {
	d := newDisk(t, 9)
	for at := range 9 {
		write(t, d, at, full(byte(at)))
	}
	d.Flush()
	for b := range byte(3) {
		write(t, d, 4, full(101+b))
		write(t, d, 6, full(201+b))
	}
	return d
}

func TestCopyHasAllTheSame(t *testing.T) {
	for one := range 4 {
		for other := range 4 {
			d := some(t)
			c := d.Copy()
			dirty(t, c, 4, 6)
			has(t, c, 4, full(103))
			has(t, c, 6, full(203))
			c.Power([]int{one, other})
			d.Power([]int{one, other})
			for at := range 9 {
				want, _ := d.Read(at)
				has(t, c, at, want)
			}
		}
	}
}

func TestCopyIsOfItsOwn(t *testing.T) {
	change := func(d *disk.Disk) {
		for at := range 9 {
			d.Rot(2048*at + 3)
			d.Write(at, full(50))
			d.Write(at, full(51))
		}
		d.Power([]int{1, 1, 1, 1, 5, 1, 5, 1, 1})
		d.Write(4, full(52))
		d.Flush()
	}
	asItWas := func(d *disk.Disk) {
		t.Helper()
		dirty(t, d, 4, 6)
		d.Power([]int{2, 3})
		for at, want := range []byte{0, 1, 2, 3, 102, 5, 203, 7, 8} {
			has(t, d, at, full(want))
		}
	}
	d := some(t)
	c := d.Copy()
	change(c)
	asItWas(d)
	d = some(t)
	c = d.Copy()
	change(d)
	asItWas(c)
}

// Two disks with the same versions do not give each other those that come next.
func TestCopyAndDiskWriteOn(t *testing.T) {
	for many := 1; many < 20; many++ {
		d := newDisk(t, 2)
		for b := range byte(many) {
			write(t, d, 1, full(b))
		}
		c := d.Copy()
		write(t, d, 1, full(200))
		write(t, c, 1, full(201))
		has(t, d, 1, full(200))
		has(t, c, 1, full(201))
		d.Flush()
		write(t, c, 1, full(202))
		c.Power([]int{many + 1})
		has(t, c, 1, full(201))
		has(t, d, 1, full(200))
	}
}

func TestCopyIsNotCut(t *testing.T) {
	d := some(t)
	cutTo(t, d, 1)
	c := d.Copy()
	write(t, c, 1, full(11))
	write(t, c, 1, full(12))
	has(t, c, 1, full(12))
	c.Flush()
	dirty(t, c)
	cutTo(t, c, 3) // of the copy's own, however few the other one left
	write(t, c, 1, full(13))
	write(t, c, 1, full(14))
	write(t, c, 1, full(15))
	has(t, c, 1, full(15))
	write(t, d, 1, full(21))
	write(t, d, 1, full(22))
	has(t, d, 1, full(21))
}

// P8.5

func TestWhatWasFlushedIsThere(t *testing.T) {
	chance := rand.New(rand.NewSource(82))
	for range 300 {
		size := 1 + chance.Intn(20)
		d := newDisk(t, size)
		flushed := make([][]byte, size)
		for at := range flushed {
			flushed[at] = full(0)
		}
		for range chance.Intn(40) {
			at, data := chance.Intn(size), anySector(chance)
			write(t, d, at, data)
			flushed[at] = data
		}
		d.Flush()
		d.Power(anyPicks(chance, size))
		for at, want := range flushed {
			has(t, d, at, want)
		}
	}
}

func TestEachSectorIsWhole(t *testing.T) {
	chance := rand.New(rand.NewSource(83))
	for range 300 {
		size := 1 + chance.Intn(6)
		d := newDisk(t, size)
		may := make([][][]byte, size)
		for at := range may {
			may[at] = [][]byte{full(0)}
		}
		for range chance.Intn(40) {
			at, data := chance.Intn(size), anySector(chance)
			write(t, d, at, data)
			may[at] = append(may[at], data)
		}
		d.Power(anyPicks(chance, size))
		for at := range may {
			got, e := d.Read(at)
			one := slices.ContainsFunc(may[at], func(data []byte) bool { return bytes.Equal(data, got) })
			if e != api.OK || !one {
				t.Fatalf("sector %d has %x, %v, which was never there", at, got, e)
			}
		}
	}
}

// Any two sectors persist by any two of their versions, the later with the earlier among them.
func TestSectorsKnowNothingOfOneAnother(t *testing.T) {
	for one := range 4 {
		for other := range 4 {
			d := newDisk(t, 9)
			for b := range byte(3) {
				write(t, d, 2, full(b+1))
				write(t, d, 7, full(b+1))
			}
			d.Power([]int{one, other})
			has(t, d, 2, full(byte(one)))
			has(t, d, 7, full(byte(other)))
		}
	}
}

// R4

func TestNilIsEmpty(t *testing.T) {
	for _, picks := range [][]int{nil, {}} {
		d := newDisk(t, 9)
		write(t, d, 1, full(1))
		d.Power(picks)
		has(t, d, 1, full(0))
		dirty(t, d)
	}
	d := newDisk(t, 9)
	if d.Write(1, nil) != api.ErrArg || d.Write(1, []byte{}) != api.ErrArg {
		t.Error("no bytes were written")
	}
}

func TestWhatIsHandedInStays(t *testing.T) {
	d := newDisk(t, 9)
	wide := append(full(1), full(2)...)
	before := slices.Clone(wide)
	write(t, d, 1, wide[:256])
	write(t, d, 1, wide[:256])
	d.Rot(2048)
	d.Write(2, wide[:255])
	d.Write(9, wide[:256])
	if !bytes.Equal(wide, before) {
		t.Error("bytes that were written, or their spare room, were changed")
	}
	picks := []int{-7, 9, 1, 5}
	write(t, d, 3, full(1))
	d.Power(picks[:2])
	if !slices.Equal(picks, []int{-7, 9, 1, 5}) {
		t.Errorf("picks are %v", picks)
	}
}

func TestSpareRoomIsNotRead(t *testing.T) {
	d := newDisk(t, 9)
	if e := d.Write(1, full(1)[:255]); e != api.ErrArg {
		t.Errorf("255 bytes with spare room: %v", e)
	}
	for at := range 3 {
		write(t, d, at, full(1))
	}
	d.Power([]int{1, 1, 1}[:1])
	has(t, d, 0, full(1))
	has(t, d, 1, full(0))
	has(t, d, 2, full(0))
}

func TestNothingIsKept(t *testing.T) {
	d := newDisk(t, 9)
	data := full(1)
	write(t, d, 1, data)
	data[0] = 9
	has(t, d, 1, full(1))
	d.Flush()
	data[1] = 9
	has(t, d, 1, full(1))
	picks := []int{1}
	write(t, d, 1, full(2))
	d.Power(picks)
	picks[0] = 0
	has(t, d, 1, full(2))
}

func TestAnswersAreNewMemory(t *testing.T) {
	d := newDisk(t, 9)
	write(t, d, 1, full(1))
	d.Flush()
	write(t, d, 2, full(2))
	for at := range 3 {
		one, _ := d.Read(at)
		other, _ := d.Read(at)
		one = one[:cap(one)]
		for i := range one {
			one[i] = 99
		}
		if !bytes.Equal(other, full(byte(at))) {
			t.Errorf("two answers for sector %d share memory", at)
		}
		has(t, d, at, full(byte(at)))
	}
	told := d.Dirty()
	told = told[:cap(told)]
	for i := range told {
		told[i] = 7
	}
	dirty(t, d, 2)
}

// What was read stays as it was, whatever happens to the sector.
func TestAnswersStay(t *testing.T) {
	d := newDisk(t, 9)
	write(t, d, 1, full(1))
	d.Flush()
	write(t, d, 2, full(2))
	lay, _ := d.Read(1)
	version, _ := d.Read(2)
	told := d.Dirty()
	d.Rot(2048)
	d.Rot(2048 * 2)
	write(t, d, 1, full(3))
	d.Flush()
	if !bytes.Equal(lay, full(1)) || !bytes.Equal(version, full(2)) || !slices.Equal(told, []int{2}) {
		t.Error("an answer was changed later")
	}
}
