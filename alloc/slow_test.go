package alloc_test

import (
	"math/rand"
	"slices"
	"testing"

	"kist/alloc"
	"kist/api"
)

// slow is the chapter told once more: three lists of numbers, searched from end to end.
type slow struct {
	free, taken, back []int
	aside             int
}

func newSlow(least, end int) *slow {
	s := &slow{}
	for n := least; n < end; n++ {
		s.free = append(s.free, n)
	}
	return s
}

// move takes a number out of one list into another, and tells whether it stood there.
func move(n int, from, to *[]int) bool {
	i := slices.Index(*from, n)
	if i < 0 {
		return false
	}
	*from = slices.Delete(*from, i, i+1)
	*to = append(*to, n)
	return true
}

func (s *slow) many() int { return len(s.free) - s.aside }

func (s *slow) mark(n int) bool { return s.many() > 0 && move(n, &s.free, &s.taken) }

func (s *slow) take() (int, bool) {
	if len(s.free) == 0 {
		return 0, false
	}
	n := slices.Min(s.free)
	s.aside = max(0, s.aside-1)
	return n, move(n, &s.free, &s.taken)
}

func (s *slow) settle() { s.free, s.back = append(s.free, s.back...), nil }

func (s *slow) reserve(n int) bool {
	if n < 0 || n > s.many() {
		return false
	}
	s.aside += n
	return true
}

func (s *slow) isTaken(n int) bool { return slices.Contains(s.taken, n) || slices.Contains(s.back, n) }

func (s *slow) runs() []api.Run {
	var out []api.Run
	for _, n := range s.free {
		if slices.Contains(s.free, n-1) {
			continue
		}
		r := api.Run{First: n, Len: 1}
		for slices.Contains(s.free, n+r.Len) {
			r.Len++
		}
		out = append(out, r)
	}
	slices.SortFunc(out, func(a, b api.Run) int { return a.First - b.First })
	return out
}

// alike holds a map against the slow one in all that can be asked.
func alike(t *testing.T, m *alloc.Map, s *slow, least, end int) {
	t.Helper()
	tells(t, m, s.many(), len(s.back), s.runs()...)
	for n := least - 3; n < end+3; n++ {
		if got := m.Taken(n); got != s.isTaken(n) {
			t.Errorf("Taken(%d) = %v", n, got)
		}
	}
}

// anyStep does the same, by chance, to both; n is for those that ask for a number.
func anyStep(t *testing.T, chance *rand.Rand, m *alloc.Map, s *slow, n int) {
	t.Helper()
	what, got, want := "", false, false
	switch chance.Intn(16) {
	case 0:
		m.Settle()
		s.settle()
	case 1:
		m.Release()
		s.aside = 0
	case 2:
		many := chance.Intn(8) - 2
		what, got, want = "Reserve", m.Reserve(many), s.reserve(many)
	case 3, 4, 5:
		what, got, want = "Mark", m.Mark(n), s.mark(n)
	case 6, 7, 8:
		what, got, want = "Back", m.Back(n), move(n, &s.taken, &s.free)
	case 9, 10, 11:
		what, got, want = "Drop", m.Drop(n), move(n, &s.taken, &s.back)
	default:
		one, ok := m.Take()
		other, wantOk := s.take()
		if one != other {
			t.Errorf("Take() = %d, want %d", one, other)
		}
		what, got, want = "Take", ok, wantOk
	}
	if got != want {
		t.Errorf("%s of %d = %v, want %v", what, n, got, want)
	}
}

func TestMapIsTheDocuments(t *testing.T) {
	chance := rand.New(rand.NewSource(121))
	for range 300 {
		least := chance.Intn(60)
		end := least + chance.Intn(40)
		m, s := newMap(t, least, end), newSlow(least, end)
		for range 200 {
			anyStep(t, chance, m, s, least-2+chance.Intn(end-least+4))
			alike(t, m, s, least, end)
			if t.Failed() {
				t.FailNow()
			}
		}
	}
}
