package journal_test

import (
	"bytes"
	"slices"
	"testing"

	"kist/api"
	"kist/disk"
	"kist/journal"
)

// P11.3

func TestOpenOfAppend(t *testing.T) {
	for _, gen := range []int{1, 256, api.MaxNumber} {
		for _, size := range edges() {
			for _, sectors := range []int{50, 51, 4096} {
				d := newDisk(t, sectors)
				appends(t, newJournal(t, d, gen), bytesOf(size, 1))
				opens(t, d, gen, bytesOf(size, 1))
				appends(t, newJournal(t, d, gen), make([]byte, size)) // bytes 0 are bytes too
				opens(t, d, gen, make([]byte, size))
			}
		}
	}
}

func TestOpenOfNoRecords(t *testing.T) {
	for _, b := range []byte{0, 1, 'J', 255} {
		d := newDisk(t, 60)
		for at := range 60 {
			lay(t, d, at, bytes.Repeat([]byte{b}, 256))
		}
		opens(t, d, 1)
		for at := range 60 {
			lay(t, d, at, sealed(bytes.Repeat([]byte{b}, 252)))
		}
		opens(t, d, max(int(b)*0x01010101, 1)) // the generation that these bytes tell, where they tell one
	}
}

func TestOpenOfAnotherGen(t *testing.T) {
	gens := []int{1, 2, 256, 257, 1 << 16, 1 << 24, 1 << 31, 0x01020304, 0x04030201, api.MaxNumber}
	for _, gen := range gens {
		d := newDisk(t, 50)
		appends(t, newJournal(t, d, gen), bytesOf(300, 1))
		for _, other := range gens {
			if other == gen {
				opens(t, d, other, bytesOf(300, 1))
			} else {
				opens(t, d, other)
			}
		}
	}
}

// Records of an older generation behind those of a newer one are not its own, whatever their numbers and places.
func TestOpenOverOlderRecords(t *testing.T) {
	d := newDisk(t, 50)
	old := newJournal(t, d, 5)
	for i := range 20 {
		appends(t, old, bytesOf(i*20, i))
	}
	j := newJournal(t, d, 6)
	appends(t, j, nil)
	opens(t, d, 6, nil)
	opens(t, d, 5)
	appends(t, j, bytesOf(300, 1))
	opens(t, d, 6, nil, bytesOf(300, 1))
}

// between lays three records of gen 9, at 2, at 3 to 5 and at 6, lets one of their sectors be another one, and tells which records are there then.
func between(t *testing.T, at int, sector []byte) [][]byte {
	t.Helper()
	d := newDisk(t, 60)
	j := newJournal(t, d, 9)
	for _, data := range three() {
		appends(t, j, data)
	}
	lay(t, d, at, sector)
	return open(t, d, 9)
}

func three() [][]byte { return [][]byte{bytesOf(10, 1), bytesOf(500, 2), bytesOf(232, 3)} }

// endsAt asks that with this sector just the first records are there.
func endsAt(t *testing.T, what string, at int, sector []byte, records int) {
	t.Helper()
	if got := between(t, at, sector); !same(got, three()[:records]) {
		t.Errorf("%s: %d records, want the first %d", what, len(got), records)
	}
}

// whole is the sectors of the three.
func whole() [][]byte {
	var out [][]byte
	for i, data := range three() {
		out = append(out, slowAll(9, i+1, data)...)
	}
	return out
}

// ahead is how many of the three end ahead of their i-th sector.
func ahead(i int) int { return []int{0, 1, 1, 1, 2}[i] }

func TestOpenEndsAtABitThatIsTurned(t *testing.T) {
	for i, sector := range whole() {
		endsAt(t, "as it was", first+i, sector, 3)
		for bit := range 2048 {
			bad := bytes.Clone(sector)
			bad[bit/8] ^= 1 << (bit % 8)
			endsAt(t, "a turned bit", first+i, bad, ahead(i))
		}
	}
}

// The sum is that of the others, but these are none of a piece that may stand there.
func TestOpenEndsAtAnotherByte(t *testing.T) {
	for i, sector := range whole() {
		size := int(sector[3])
		for at := range 252 {
			if at >= 12 && at < 12+size {
				continue // another byte of the record is no fault that could be told
			}
			step := 1
			if at >= 12 {
				step = 127 // of bytes 0 that stand behind some others are enough
			}
			for turn := 1; turn < 256; turn += step {
				bad := bytes.Clone(sector)
				bad[at] ^= byte(turn)
				if at == 3 && int(bad[3]) > size && int(bad[3]) <= 232 && (i == 0 || i == 3) {
					continue // a last piece may well end with bytes 0
				}
				if at == 2 && bad[2] == 1 && i == 1 {
					continue // a first piece that is full may well be the only one
				}
				endsAt(t, "another byte", first+i, sealed(bad), ahead(i))
			}
		}
	}
}

// Where the other bytes are those of another record it is told, and others behind it just if they follow.
func TestOpenTellsTheBytesThatAreThere(t *testing.T) {
	sector := bytes.Clone(whole()[0])
	sector[12] ^= 255
	want := three()
	want[0][0] ^= 255
	if got := between(t, first, sealed(sector)); !same(got, want) {
		t.Errorf("Open tells %v", got)
	}
	only := bytes.Clone(whole()[1])
	only[2] = 1
	want = [][]byte{three()[0], three()[1][:232]}
	if got := between(t, first+1, sealed(only)); !same(got, want) {
		t.Errorf("Open tells %v", got)
	}
	longer := bytes.Clone(whole()[0])
	longer[3] = 12
	want = three()
	want[0] = append(want[0], 0, 0)
	if got := between(t, first, sealed(longer)); !same(got, want) {
		t.Errorf("Open tells %v", got)
	}
}

func TestOpenEndsAtAnotherPiece(t *testing.T) {
	all := whole()
	for i := range all {
		for k := range all {
			if k != i {
				endsAt(t, "another piece", first+i, all[k], ahead(i))
			}
		}
		endsAt(t, "bytes 0", first+i, make([]byte, 256), ahead(i))
		endsAt(t, "bytes 0 with their sum", first+i, sealed(make([]byte, 252)), ahead(i))
	}
}

// lone is what Open tells of sectors from the journal's first one on.
func lone(t *testing.T, sectors ...[]byte) [][]byte {
	t.Helper()
	d := newDisk(t, 60)
	for i, sector := range sectors {
		lay(t, d, first+i, sector)
	}
	return open(t, d, 9)
}

func TestOpenOfSizes(t *testing.T) {
	full, short := bytesOf(232, 1), bytesOf(100, 2)
	for _, l := range []struct {
		what    string
		sectors [][]byte
		want    [][]byte
	}{
		{"no piece", [][]byte{slow(0, 0, 9, 1, nil)}, nil},
		{"no piece, some bytes", [][]byte{slow(0, 0, 9, 1, short)}, nil},
		{"a lone one without bytes", [][]byte{slow(0, 1, 9, 1, nil)}, [][]byte{nil}},
		{"a lone one that is full", [][]byte{slow(0, 1, 9, 1, full)}, [][]byte{full}},
		{"a lone one with too many", [][]byte{slow(0, 1, 9, 1, bytesOf(233, 1))}, nil},
		{"a lone one with all there is room for", [][]byte{slow(0, 1, 9, 1, bytesOf(240, 1))}, nil},
		{"a last one without bytes", [][]byte{slow(0, 2, 9, 1, full), slow(1, 2, 9, 1, nil)}, nil},
		{"a last one with one", [][]byte{slow(0, 2, 9, 1, full), slow(1, 2, 9, 1, []byte{7})}, [][]byte{append(bytes.Clone(full), 7)}},
		{"a last one that is full", [][]byte{slow(0, 2, 9, 1, full), slow(1, 2, 9, 1, full)}, [][]byte{slices.Concat(full, full)}},
		{"a last one with too many", [][]byte{slow(0, 2, 9, 1, full), slow(1, 2, 9, 1, bytesOf(233, 1))}, nil},
		{"a first one with too few", [][]byte{slow(0, 2, 9, 1, full[:231]), slow(1, 2, 9, 1, full)}, nil},
		{"a first one with too many", [][]byte{slow(0, 2, 9, 1, bytesOf(233, 1)), slow(1, 2, 9, 1, full)}, nil},
		{"a middle one with too few", [][]byte{slow(0, 3, 9, 1, full), slow(1, 3, 9, 1, full[:231]), slow(2, 3, 9, 1, full)}, nil},
		{"a middle one without bytes", [][]byte{slow(0, 3, 9, 1, full), slow(1, 3, 9, 1, nil), slow(2, 3, 9, 1, full)}, nil},
		{"another number of pieces behind", [][]byte{slow(0, 2, 9, 1, full), slow(1, 3, 9, 1, full), slow(2, 3, 9, 1, full)}, nil},
		{"another number of pieces ahead", [][]byte{slow(0, 3, 9, 1, full), slow(1, 2, 9, 1, full), slow(2, 3, 9, 1, full)}, nil},
		{"a place that is left out", [][]byte{slow(0, 3, 9, 1, full), slow(2, 3, 9, 1, full), slow(2, 3, 9, 1, full)}, nil},
		{"a place twice", [][]byte{slow(0, 3, 9, 1, full), slow(0, 3, 9, 1, full), slow(1, 3, 9, 1, full)}, nil},
		{"a first one that is not there", [][]byte{slow(1, 2, 9, 1, full)}, nil},
		{"a place beyond", [][]byte{slow(0, 1, 9, 1, full), slow(1, 1, 9, 1, full)}, [][]byte{full}},
	} {
		if got := lone(t, l.sectors...); !same(got, l.want) {
			t.Errorf("%s: %d records: %v", l.what, len(got), got)
		}
	}
}

func TestOpenOfNumbers(t *testing.T) {
	for _, number := range []int{0, 2, 3, 256, 257, 1 << 16, 1<<24 + 1, 1<<32 - 1} {
		if got := lone(t, slow(0, 1, 9, number, nil)); len(got) != 0 {
			t.Errorf("the number %d is told as the first", number)
		}
		if got := lone(t, slow(0, 1, 9, 1, nil), slow(0, 1, 9, number, nil)); (len(got) == 2) != (number == 2) {
			t.Errorf("behind the first the number %d: %d records", number, len(got))
		}
	}
	if got := lone(t, slow(0, 1, 9, 1, nil), slow(0, 1, 9, 1, nil)); len(got) != 1 {
		t.Errorf("the number 1 twice: %d records", len(got))
	}
	// behind one that is not so, others are not looked for
	if got := lone(t, slow(0, 1, 9, 1, nil), make([]byte, 256), slow(0, 1, 9, 2, nil), slow(0, 1, 9, 3, nil)); len(got) != 1 {
		t.Errorf("behind a gap: %d records", len(got))
	}
	if got := lone(t, make([]byte, 256), slow(0, 1, 9, 1, nil)); len(got) != 0 {
		t.Errorf("behind a gap at the front: %d records", len(got))
	}
}

// A record that goes beyond the journal's sectors is none, though all its pieces stand there, on blocks.
func TestOpenBeyondTheEnd(t *testing.T) {
	for start := first; start < end; start++ {
		for _, beyond := range []int{0, 1, 2, 100, 205} {
			many := end - start + beyond
			d := newDisk(t, 400)
			var want [][]byte
			for at := first; at < start; at++ {
				lay(t, d, at, slow(0, 1, 9, at-1, []byte{byte(at)}))
				want = append(want, []byte{byte(at)})
			}
			for place := range many {
				lay(t, d, start+place, slow(place, many, 9, start-1, bytesOf(232, 1)))
			}
			if beyond == 0 {
				want = append(want, bytes.Repeat(bytesOf(232, 1), many))
			}
			opens(t, d, 9, want...)
		}
	}
}

// Nor is one that stands wholly behind, or ahead of, the journal's sectors.
func TestOpenLooksNowhereElse(t *testing.T) {
	d := newDisk(t, 60)
	for number := 1; number <= 49; number++ {
		lay(t, d, number+1, slow(0, 1, 9, number, nil))
	}
	if got := open(t, d, 9); len(got) != 48 {
		t.Errorf("%d records", len(got))
	}
	d = newDisk(t, 60)
	lay(t, d, 0, slow(0, 1, 9, 1, nil))
	lay(t, d, 1, slow(0, 1, 9, 1, nil))
	lay(t, d, 50, slow(0, 1, 9, 1, nil))
	opens(t, d, 9)
}

func TestOpenWritesNothing(t *testing.T) {
	d := newDisk(t, 60)
	appends(t, newJournal(t, d, 9), bytesOf(300, 1))
	cut(t, d, 1)
	for range 3 {
		opens(t, d, 9, bytesOf(300, 1))
	}
	if !slices.Equal(d.Dirty(), []int{2, 3}) {
		t.Errorf("behind Open %v have versions", d.Dirty())
	}
	d.Flush() // the one that the cut leaves
	d.Power(nil)
	opens(t, d, 9, bytesOf(300, 1))
}

// P11.4

func TestWipeRefuses(t *testing.T) {
	if e := journal.Wipe(nil); e != api.ErrArg {
		t.Errorf("Wipe(nil) = %v", e)
	}
	for _, sectors := range []int{1, 2, 3, 48, 49} {
		d := newDisk(t, sectors)
		for at := range sectors {
			lay(t, d, at, bytesOf(256, at))
		}
		if e := journal.Wipe(d); e != api.ErrArg {
			t.Errorf("Wipe of %d sectors = %v", sectors, e)
		}
		if len(d.Dirty()) != sectors {
			t.Errorf("Wipe of %d sectors was refused, and flushed", sectors)
		}
		for at := range sectors {
			has(t, d, at, bytesOf(256, at))
		}
	}
}

// wild is a disk with something in all its sectors, not flushed.
func wild(t *testing.T, sectors int) *disk.Disk {
	t.Helper()
	d := newDisk(t, sectors)
	for at := range sectors {
		lay(t, d, at, bytesOf(256, at))
	}
	return d
}

func TestWipe(t *testing.T) {
	for _, sectors := range []int{50, 51, 60, 4096} {
		d := wild(t, sectors)
		wipe(t, d)
		if len(d.Dirty()) != 0 {
			t.Errorf("behind Wipe %v have versions", d.Dirty())
		}
		d.Power(nil)
		for at := range sectors {
			want := make([]byte, 256)
			if at < first || at >= end {
				want = bytesOf(256, at)
			}
			has(t, d, at, want)
		}
	}
}

func TestWipeEndsRecords(t *testing.T) {
	d := newDisk(t, 50)
	appends(t, newJournal(t, d, 5), bytesOf(48*232, 1))
	d.Flush()
	wipe(t, d)
	opens(t, d, 5)
	d.Power(nil)
	opens(t, d, 5)
	appends(t, newJournal(t, d, 6), bytesOf(300, 2))
	opens(t, d, 6, bytesOf(300, 2))
}

// It is 48 writes and a flush.
func TestWipeUnderACut(t *testing.T) {
	for _, left := range []int{0, 1, 47, 48, 49, 50} {
		d := wild(t, 60)
		d.Flush()
		cut(t, d, left)
		wipe(t, d)
		if left < 49 && len(d.Dirty()) != left || left >= 49 && len(d.Dirty()) != 0 {
			t.Errorf("%d left: %v have versions", left, d.Dirty())
		}
		lay(t, d, 55, make([]byte, 256))
		if slices.Contains(d.Dirty(), 55) != (left > 49) {
			t.Errorf("%d left: behind Wipe %v have versions", left, d.Dirty())
		}
	}
}
