package chunks

import (
	"bytes"
	"testing"

	"kist/alloc"
	"kist/api"
	"kist/cache"
	"kist/disk"
	"kist/sums"
)

func newStore() *Store {
	d, _ := disk.New(60)
	c, _ := cache.New(d, 9)
	m, _ := alloc.New(50, 60)
	s, _ := New(c, m)
	return s
}

// P16.4: what is known and told again does not stand at its digest twice.
func TestWhatIsToldAgain(t *testing.T) {
	s := newStore()
	c, _, _ := s.Save([]byte("abc"))
	if e := s.Know(c); e != api.OK || s.Known() != 1 || len(s.known[sums.Sha([]byte("abc"))]) != 1 {
		t.Errorf("Know() = %v; known are %v", e, s.known)
	}
}

// P16.2 and T4: nobody has two rows of bytes with one digest, so a chunk is put to the digest of others by hand.
func TestOneDigestOfUnlikeBytes(t *testing.T) {
	s := newStore()
	x, y := bytes.Repeat([]byte("x"), 100), bytes.Repeat([]byte("y"), 100)
	saved, _, e := s.Save(x)
	if e != api.OK {
		t.Fatal(e)
	}
	s.Lose(saved.Block)
	s.learn(saved, stand{sums.Sha(y), []int{saved.Block}})
	other, known, e := s.Save(y)
	if e != api.OK || known || other == saved {
		t.Errorf("Save() = %v, %v, %v: the bytes of %v are others", other, known, e, saved)
	}
	if got, known, e := s.Save(y); e != api.OK || !known || got != other || s.Known() != 2 {
		t.Errorf("Save() = %v, %v, %v; %d are known", got, known, e, s.Known())
	}
	if !s.Lose(saved.Block) || s.Lose(saved.Block) {
		t.Error("Lose")
	}
	if got, known, e := s.Save(y); e != api.OK || !known || got != other || s.Known() != 1 {
		t.Errorf("Save() = %v, %v, %v; %d are known", got, known, e, s.Known())
	}
	if !s.Lose(other.Block) || len(s.known) != 0 || len(s.stands) != 0 {
		t.Errorf("all are lost, and %v, %v are kept", s.known, s.stands)
	}
}
