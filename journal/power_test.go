package journal_test

import (
	"bytes"
	"math/rand"
	"slices"
	"testing"

	"kist/api"
	"kist/disk"
	"kist/journal"
)

// P11.5

// isPart asks that what is told is a first part of what was appended, and has the first least of them.
func isPart(t *testing.T, told, appended [][]byte, least int) {
	t.Helper()
	if len(told) > len(appended) || !same(told, appended[:len(told)]) {
		t.Fatalf("%d records are told, which are no first part of %d", len(told), len(appended))
	}
	if len(told) < least {
		t.Fatalf("%d records are told, and %d were flushed", len(told), least)
	}
}

// Whichever of some sectors persist: just the records ahead of the first piece that was lost.
func TestWhicheverPersist(t *testing.T) {
	records := [][]byte{bytesOf(10, 1), bytesOf(500, 2), nil, bytesOf(232, 3), bytesOf(465, 4)}
	for _, flushed := range []int{0, 1, 2, 5} {
		for which := range 1 << 9 {
			d := newDisk(t, 50)
			wipe(t, d)
			j := newJournal(t, d, 5)
			want, at := 0, 0
			for i, data := range records {
				appends(t, j, data)
				pieces := len(slowAll(5, i+1, data))
				all := 1<<pieces - 1
				if i < flushed {
					d.Flush()
				} else {
					if want == i && which>>at&all == all {
						want++
					}
					at += pieces
				}
				want = max(want, min(flushed, i+1))
			}
			picks := make([]int, 9)
			for k := range picks {
				picks[k] = which >> k & 1
			}
			d.Power(picks)
			opens(t, d, 5, records[:want]...)
		}
	}
}

// With the power gone behind each write, and all of it lasting.
func TestThePowerWithinAnAppend(t *testing.T) {
	records := [][]byte{bytesOf(10, 1), bytesOf(500, 2), nil, bytesOf(232, 3), bytesOf(465, 4)}
	ends := []int{1, 4, 5, 6, 9}
	for left := range 11 {
		d := newDisk(t, 50)
		wipe(t, d)
		j := newJournal(t, d, 5)
		cut(t, d, left)
		want := 0
		for i, data := range records {
			appends(t, j, data)
			if ends[i] <= left {
				want++
			}
		}
		opens(t, d, 5, records[:want]...)
		d.Power(slices.Repeat([]int{1}, 9))
		opens(t, d, 5, records[:want]...)
	}
}

// anyRecord is a record of any bytes, or of such as look like the journal's own.
func anyRecord(chance *rand.Rand, gen int) []byte {
	switch chance.Intn(6) {
	case 0:
		return nil
	case 1:
		return make([]byte, 232*chance.Intn(4))
	case 2:
		return slow(chance.Intn(2), 1+chance.Intn(2), gen, 1+chance.Intn(5), bytesOf(chance.Intn(233), 1))
	case 3: // so that a piece's bytes are those of a piece, from their first one on
		inner := slow(0, 1, gen+chance.Intn(2), 1+chance.Intn(5), nil)[:232]
		return bytes.Repeat(inner, 1+chance.Intn(3))
	}
	data := make([]byte, chance.Intn(900))
	chance.Read(data)
	return data
}

func anyPicks(chance *rand.Rand) []int {
	picks := make([]int, chance.Intn(60))
	for k := range picks {
		picks[k] = chance.Intn(5)
	}
	return picks
}

// generation is a journal's life: what was appended, how many of that ahead of the last flush, and whether the disk was cut.
func generation(t *testing.T, chance *rand.Rand, d *disk.Disk, gen int) ([][]byte, int, bool) {
	t.Helper()
	j := newJournal(t, d, gen)
	var all [][]byte
	flushed, isCut := 0, false
	for range chance.Intn(30) {
		data := anyRecord(chance, gen)
		if e := j.Append(data); e == api.ErrBig {
			continue
		} else if e != api.OK {
			t.Fatal(e)
		}
		all = append(all, data)
		switch chance.Intn(12) {
		case 0, 1:
			d.Flush()
			if !isCut {
				flushed = len(all)
			}
		case 2:
			cut(t, d, chance.Intn(9))
			isCut = true
		}
	}
	if !isCut {
		opens(t, d, gen, all...)
	}
	return all, flushed, isCut
}

// Journals of one generation behind the other, on what the ones ahead left.
func TestBehindAnyLossOfPower(t *testing.T) {
	chance := rand.New(rand.NewSource(115))
	for range 60 {
		d := newDisk(t, 50+chance.Intn(20))
		wipe(t, d)
		gen := 1 + chance.Intn(1<<31)
		for range 20 {
			all, flushed, isCut := generation(t, chance, d, gen)
			if isCut || chance.Intn(3) > 0 { // else the next one begins ahead of any loss
				d.Power(anyPicks(chance))
				isPart(t, open(t, d, gen), all, flushed)
			}
			gen += 1 + chance.Intn(3)
			opens(t, d, gen)
		}
	}
}

// R4

func TestNilIsEmpty(t *testing.T) {
	for _, data := range [][]byte{nil, {}} {
		d := newDisk(t, 50)
		j := newJournal(t, d, 5)
		appends(t, j, data)
		tells(t, j, 47, 1)
		has(t, d, 2, slow(0, 1, 5, 1, nil))
		if got := open(t, d, 5); len(got) != 1 || len(got[0]) != 0 {
			t.Errorf("Open tells %v", got)
		}
	}
}

func TestWhatIsHandedInStays(t *testing.T) {
	for _, size := range []int{0, 1, 232, 300, 48 * 232, 48*232 + 1} {
		room := bytesOf(size+500, 1)
		was := bytes.Clone(room)
		d := newDisk(t, 50)
		j := newJournal(t, d, 5)
		e := j.Append(room[:size])
		if e == api.OK != (size <= 48*232) {
			t.Errorf("Append of %d bytes = %v", size, e)
		}
		if !bytes.Equal(room, was) {
			t.Errorf("of %d bytes: they, or their spare room, were changed", size)
		}
		clear(room)
		if e == api.OK {
			opens(t, d, 5, was[:size])
		}
	}
}

// The disk is the one that was handed in, not a copy of it.
func TestTheDiskIsKept(t *testing.T) {
	d := newDisk(t, 50)
	other := d.Copy()
	j := newJournal(t, d, 5)
	appends(t, j, nil)
	opens(t, d, 5, nil)
	opens(t, other, 5)
}

// Two journals know nothing of one another.
func TestJournalsAreOfTheirOwn(t *testing.T) {
	one, other := newDisk(t, 50), newDisk(t, 50)
	a, b := newJournal(t, one, 5), newJournal(t, other, 6)
	appends(t, a, bytesOf(300, 1))
	appends(t, b, nil)
	appends(t, a, bytesOf(10, 2))
	tells(t, a, 45, 2)
	tells(t, b, 47, 1)
	opens(t, one, 5, bytesOf(300, 1), bytesOf(10, 2))
	opens(t, other, 6, nil)
}

func TestAnswersAreNewMemory(t *testing.T) {
	d := newDisk(t, 50)
	j := newJournal(t, d, 5)
	records := [][]byte{bytesOf(100, 1), bytesOf(232, 2), bytesOf(500, 3)}
	for _, data := range records {
		appends(t, j, data)
	}
	got, e := journal.Open(d, 5)
	if e != api.OK || len(got) != 3 {
		t.Fatal(len(got), e)
	}
	for i := range got {
		clear(got[i][:cap(got[i])])
		for k := i + 1; k < 3; k++ {
			if !bytes.Equal(got[k], records[k]) {
				t.Errorf("records %d and %d share memory", i, k)
			}
		}
	}
	clear(got[:cap(got)])
	opens(t, d, 5, records...)
}
