package cache_test

import (
	"bytes"
	"math/rand"
	"slices"
	"testing"

	"kist/api"
	"kist/block"
	"kist/cache"
	"kist/disk"
)

// kept is a block that slow has, and when it was asked; a dirty one was asked never.
type kept struct {
	n     int
	b     api.Block
	asked int
}

// slow is a cache told once more: one list of blocks, by rising numbers, and a count of the askings.
type slow struct {
	room, size, now int
	all             []kept
	sectors         map[int][]byte // what the disk has
}

func (s *slow) place(n int) (int, bool) {
	return slices.BinarySearchFunc(s.all, n, func(k kept, n int) int { return k.n - n })
}

func (s *slow) forget(n int) {
	if at, ok := s.place(n); ok {
		s.all = slices.Delete(s.all, at, at+1)
	}
}

func (s *slow) set(n int, b api.Block, asked int) {
	s.forget(n)
	at, _ := s.place(n)
	s.all = slices.Insert(s.all, at, kept{n, b, asked})
}

// clean is the clean ones' numbers, the one asked longest ago first.
func (s *slow) clean() []int {
	some := slices.Clone(s.all)
	some = slices.DeleteFunc(some, func(k kept) bool { return k.asked == 0 })
	slices.SortFunc(some, func(a, b kept) int { return a.asked - b.asked })
	var out []int
	for _, k := range some {
		out = append(out, k.n)
	}
	return out
}

func (s *slow) dirty() []int {
	var out []int
	for _, k := range s.all {
		if k.asked == 0 {
			out = append(out, k.n)
		}
	}
	return out
}

func (s *slow) shrink() {
	clean := s.clean()
	for _, n := range clean[:max(0, len(clean)-s.room)] {
		s.forget(n)
	}
}

func (s *slow) get(n int) (api.Block, api.Errno) {
	if n < 50 || n > s.size-1 {
		return api.Block{}, api.ErrRange
	}
	s.now++
	if at, ok := s.place(n); ok {
		if s.all[at].asked > 0 {
			s.all[at].asked = s.now
		}
		return s.all[at].b, api.OK
	}
	b, e := block.Get(n, s.sectors[n])
	if e != api.OK {
		return api.Block{}, e
	}
	s.set(n, b, s.now)
	s.shrink()
	return b, api.OK
}

func (s *slow) put(n int, b api.Block) api.Errno {
	if n < 50 || n > s.size-1 {
		return api.ErrRange
	}
	if b.Kind < 1 || b.Kind > 4 || len(b.Body) > 240 {
		return api.ErrArg
	}
	s.set(n, b, 0)
	return api.OK
}

func (s *slow) flush() {
	for _, n := range s.dirty() {
		at, _ := s.place(n)
		s.now++
		s.all[at].asked = s.now
		s.sectors[n], _ = block.Put(n, s.all[at].b)
	}
	s.shrink()
}

// newSlow is one beside a cache of the same disk.
func newSlow(d *disk.Disk, room int) *slow {
	s := &slow{room: room, size: d.Size(), sectors: map[int][]byte{}}
	for n := range s.size {
		s.sectors[n], _ = d.Read(n)
	}
	return s
}

// anyBlock is mostly one that may be.
func anyBlock(chance *rand.Rand) api.Block {
	b := api.Block{Kind: 1 + chance.Intn(4), Body: make([]byte, chance.Intn(6))}
	if chance.Intn(12) == 0 {
		b.Kind = chance.Intn(7) - 1
	}
	if chance.Intn(12) == 0 {
		b.Body = make([]byte, 238+chance.Intn(5))
	}
	chance.Read(b.Body)
	return b
}

// step does one thing to both, and holds what they answer against each other.
func step(t *testing.T, chance *rand.Rand, c *cache.Cache, d *disk.Disk, s *slow) {
	t.Helper()
	n := 48 + chance.Intn(s.size-48+2)
	switch what := chance.Intn(100); {
	case what < 45:
		got, e := c.Get(n)
		if want, f := s.get(n); e != f || !same(got, want) {
			t.Fatalf("Get(%d) = %v, %v, want %v, %v", n, got, e, want, f)
		}
	case what < 75:
		b := anyBlock(chance)
		if e, f := c.Put(n, b), s.put(n, b); e != f {
			t.Fatalf("Put(%d, %v) = %v, want %v", n, b, e, f)
		}
	case what < 85:
		c.Forget(n)
		s.forget(n)
	case what < 95:
		flushes(t, c)
		s.flush()
	case what < 98:
		d.Flush()
	default:
		if n < s.size { // past the cache
			d.Rot(n*2048 + chance.Intn(2048))
			s.sectors[n], _ = d.Read(n)
		}
	}
}

// P13.2, P13.3, P13.4
func TestAsSlow(t *testing.T) {
	for seed := range int64(120) {
		chance := rand.New(rand.NewSource(seed))
		room := 1 + chance.Intn(8)
		c, d := newCache(t, 52+chance.Intn(20), room)
		s := newSlow(d, room)
		for range 400 {
			step(t, chance, c, d, s)
			tells(t, c, s.dirty(), s.clean())
			for n := range s.size {
				if got, _ := d.Read(n); !bytes.Equal(got, s.sectors[n]) {
					t.Fatalf("sector %d has %v, want %v", n, got, s.sectors[n])
				}
			}
			if t.Failed() {
				t.Fatalf("of the seed %d", seed)
			}
		}
	}
}
