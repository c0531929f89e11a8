package chunks_test

import (
	"bytes"
	"cmp"
	"maps"
	"math/rand"
	"slices"
	"testing"

	"kist/api"
	"kist/cache"
	"kist/chunks"
	"kist/pack"
)

// kept is a chunk that was saved once, and whose blocks are taken still.
type kept struct {
	c       api.Chunk
	data    []byte
	numbers []int
}

// story is a store, and what is to be true of it, told without digests.
type story struct {
	*ground
	chance *rand.Rand
	there  map[int]kept // by the first block
	known  []int        // first blocks, the one known longest first
	fresh  map[int]struct{}
	found  map[api.Chunk]struct{}
	flush  bool // the disk has all
}

func newStory(t *testing.T, seed int64, blocks int) *story {
	chance := rand.New(rand.NewSource(seed))
	return &story{
		ground: newGround(t, blocks, 1+chance.Intn(20)),
		chance: chance,
		there:  map[int]kept{},
		fresh:  map[int]struct{}{},
		found:  map[api.Chunk]struct{}{},
	}
}

// bytes is one of some 60 rows of bytes.
func (s *story) bytes() []byte {
	i := s.chance.Int63n(60)
	many := []int{1, 2, 63, 64, 228, 229, 300, 466, 467, 512}[i%10]
	switch i % 3 {
	case 0:
		return letters(byte(i), many)
	case 1:
		return text(i, many)
	}
	return noise(i, many)
}

// some is one of the chunks that are there, or none.
func (s *story) some() (kept, bool) {
	if len(s.there) == 0 {
		return kept{}, false
	}
	firsts := slices.Sorted(maps.Keys(s.there))
	return s.there[firsts[s.chance.Intn(len(firsts))]], true
}

func (s *story) isKnown(first int) bool { return slices.Contains(s.known, first) }

// least is the first blocks that are free.
func (s *story) least(many int) []int {
	var out []int
	for _, run := range s.m.Runs() {
		for n := run.First; n < run.First+run.Len && len(out) < many; n++ {
			out = append(out, n)
		}
	}
	return out
}

func (s *story) doSave() {
	data := s.bytes()
	for _, first := range s.known {
		if bytes.Equal(s.there[first].data, data) {
			s.save(data, s.there[first].c, true)
			s.found[s.there[first].c] = struct{}{}
			return
		}
	}
	packed, _ := pack.Pack(data)
	need := 1
	for free := 235; free < len(packed); free += 238 {
		need++
	}
	numbers := s.least(need)
	if len(numbers) < need {
		s.refuses(data, api.ErrSpace)
		return
	}
	c := chunk(numbers[0], len(data))
	s.save(data, c, false)
	s.there[c.Block] = kept{c, data, numbers}
	s.known = append(s.known, c.Block)
	for _, n := range numbers {
		s.fresh[n] = struct{}{}
	}
	s.flush = false
}

func (s *story) doKnow() {
	k, ok := s.some()
	if !ok {
		return
	}
	s.know(k.c)
	if !s.isKnown(k.c.Block) {
		s.known = append(s.known, k.c.Block)
	}
}

func (s *story) unlearn(first int) {
	s.known = slices.DeleteFunc(s.known, func(other int) bool { return other == first })
}

func (s *story) doLose() {
	block := 50 + s.chance.Intn(s.d.Size()-50)
	if k, ok := s.some(); ok && s.chance.Intn(3) > 0 {
		block = k.c.Block
	}
	s.lose(block, s.isKnown(block))
	s.unlearn(block)
}

// doFree lets a chunk's blocks go as a collector does, or sets what was given back free. What is new is left to Undo.
func (s *story) doFree() {
	k, ok := s.some()
	if _, is := s.fresh[k.c.Block]; !ok || is {
		s.m.Settle()
		return
	}
	s.lose(k.c.Block, s.isKnown(k.c.Block))
	s.unlearn(k.c.Block)
	for _, n := range k.numbers {
		s.m.Drop(n)
		s.c.Forget(n)
	}
	delete(s.there, k.c.Block)
}

func (s *story) doBegin() {
	s.s.Begin()
	clear(s.fresh)
	clear(s.found)
}

func (s *story) doUndo() {
	free := s.m.Free() + len(s.fresh)
	s.s.Undo()
	for first := range s.there {
		if _, is := s.fresh[first]; is {
			delete(s.there, first)
			s.unlearn(first)
		}
	}
	for n := range s.fresh {
		if s.m.Taken(n) {
			s.t.Errorf("block %d is taken still", n)
		}
	}
	clear(s.fresh)
	clear(s.found)
	if s.m.Free() != free {
		s.t.Errorf("%d are free, want %d", s.m.Free(), free)
	}
}

func (s *story) doFlush() {
	if s.c.Flush() != api.OK {
		s.t.Fatal("Flush")
	}
	s.flush = true
}

// doMount is another store, over another cache, that is told what the last one knew.
func (s *story) doMount() {
	if !s.flush {
		return
	}
	s.c, _ = cache.New(s.d, 1+s.chance.Intn(20))
	s.s, _ = chunks.New(s.c, s.m)
	clear(s.fresh)
	clear(s.found)
	for _, first := range s.known {
		s.know(s.there[first].c)
	}
}

func (s *story) look() {
	s.t.Helper()
	s.ground.fresh(slices.Sorted(maps.Keys(s.fresh))...)
	s.ground.found(slices.SortedFunc(maps.Keys(s.found), func(a, b api.Chunk) int {
		return cmp.Or(a.Block-b.Block, a.Len-b.Len)
	})...)
	if s.s.Known() != len(s.known) {
		s.t.Errorf("%d are known, want %d", s.s.Known(), len(s.known))
	}
	if k, ok := s.some(); ok {
		s.loads(k.c, k.data)
		s.stands(k.c, k.numbers...)
	}
}

func (s *story) lookAll() {
	s.t.Helper()
	for _, k := range s.there {
		s.loads(k.c, k.data)
		s.stands(k.c, k.numbers...)
	}
	for _, first := range slices.Clone(s.known) {
		s.lose(first, true)
	}
	if s.s.Known() != 0 {
		s.t.Errorf("all are lost, and %d known", s.s.Known())
	}
}

// P16.1 to P16.5: stories by chance, held against what is to be true.
func TestStoriesByChance(t *testing.T) {
	for seed := range int64(120) {
		s := newStory(t, seed, 3+int(seed)%90)
		for range 300 {
			switch s.chance.Intn(16) {
			case 0, 1:
				s.doKnow()
			case 2, 3:
				s.doLose()
			case 4, 5:
				s.doFree()
			case 6:
				s.doBegin()
			case 7:
				s.doUndo()
			case 8:
				s.doFlush()
			case 9:
				s.doMount()
			default:
				s.doSave()
			}
			s.look()
			if t.Failed() {
				t.Fatalf("story %d", seed)
			}
		}
		s.lookAll()
	}
}

// R1, T5: whatever stands in blocks, every call ends and none panics.
func TestBlocksByChance(t *testing.T) {
	chance := rand.New(rand.NewSource(5))
	for range 3000 {
		g := newGround(t, 6, 9)
		many := 1 + chance.Intn(512)
		data := [][]byte{noise(chance.Int63(), many), text(chance.Int63(), many)}[chance.Intn(2)]
		c, _, e := g.s.Save(data)
		if e != api.OK {
			t.Fatal(e)
		}
		for range 1 + chance.Intn(3) {
			number := 50 + chance.Intn(4)
			b, e := g.c.Get(number)
			if e != api.OK || len(b.Body) == 0 {
				continue
			}
			switch chance.Intn(4) {
			case 0:
				b.Body = b.Body[:chance.Intn(len(b.Body))]
			case 1:
				b.Kind = 1 + chance.Intn(4)
			default:
				b.Body[chance.Intn(min(12, len(b.Body)))] = byte(chance.Intn(256))
			}
			g.lay(number, b)
		}
		numbers, e := g.s.Blocks(c)
		got, f := g.s.Load(c)
		if e != api.OK && (f != e || len(numbers) != 0) {
			t.Fatalf("Blocks() = %v, %v; Load() = %v, %v", numbers, e, got, f)
		}
		if f == api.OK && !bytes.Equal(got, data) || f != api.OK && len(got) != 0 {
			t.Fatalf("Load() = %v, %v", got, f)
		}
		if k := g.s.Know(c); k != f {
			t.Fatalf("Know() = %v, Load() = %v", k, f)
		}
		g.s.Undo()
		g.counts(0, 6)
	}
}
