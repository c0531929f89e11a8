package gc_test

import (
	"bytes"
	"math/rand"
	"slices"
	"testing"

	"kist/api"
)

// story is a ground and its twin: an engine on the greatest disk, without a collector, that does the same operations. Where the twin's disk is full it is made anew.
type story struct {
	*ground
	chance *rand.Rand
	twin   *ground
	done   []api.Op // all that changed something, from the beginning on
	told   []string // behind each of them what was told, ahead of all of them first
	kept   int      // so many of them are sure to be kept
	many   map[api.Errno]int
	cycles int
	quiet  bool // whether no operation came since the collector began
}

func newStory(t *testing.T, seed int64, sectors int) *story {
	s := &story{ground: newGround(t, sectors), chance: rand.New(rand.NewSource(seed)), twin: newGround(t, 4096), many: map[api.Errno]int{}}
	s.told = []string{s.ground.told()}
	return s
}

// op is an operation by chance, of few names and few bytes, so that they meet.
func (s *story) op() api.Op {
	v := s.chance.Intn(s.g.Next()) // that there may not be any more
	for _, x := range s.g.Versions() {
		if s.chance.Intn(3) > 0 && (!x.Fixed || s.chance.Intn(12) == 0) {
			v = x.ID
		}
	}
	name := func() string {
		return []string{"/a", "/a", "/b", "/b", "/c", "/d/a", "/d/a", "/d/e/a", "/d", "/h"}[s.chance.Intn(10)]
	}
	seed, many := s.chance.Int63n(5), s.chance.Intn([]int{30, 300, 600, 1024}[s.chance.Intn(4)])
	switch s.chance.Intn(24) {
	case 0, 1:
		return of(api.OpMkdir, v, []string{"/d", "/d/e", "/h"}[s.chance.Intn(3)])
	case 2, 3, 4:
		return of(api.OpCreate, v, name())
	case 5, 6:
		return truncate(v, name(), s.chance.Intn(1500))
	case 7, 8:
		return rename(v, name(), name())
	case 9, 10:
		return of(api.OpUnlink, v, name())
	case 11:
		return of([]int{api.OpSnapshot, api.OpClone}[s.chance.Intn(2)], v, "")
	case 12, 13:
		if len(s.g.Versions()) > 3 || s.chance.Intn(300) == 0 {
			return of(api.OpDrop, v, "")
		}
		return of(api.OpVersions, v, "")
	case 14:
		return api.Op{Kind: api.OpRead, Version: v, Path: name(), Off: s.chance.Intn(500), Len: s.chance.Intn(900)}
	case 15:
		return of(api.OpList, v, []string{"/", "/d", "/d/e"}[s.chance.Intn(3)])
	case 16:
		return api.Op{Kind: api.OpSync}
	}
	return write(v, name(), s.chance.Intn(1500), noise(seed, many))
}

// do does an operation, which the twin is to answer just so, but for a want of room. (P20.3)
func (s *story) do(x api.Op) {
	s.t.Helper()
	s.quiet = false
	r := s.g.Do(x)
	s.many[r.Code]++
	if r.Code == api.ErrSpace {
		return
	}
	if s.twin.g.Free() < 300 {
		s.twin.cycle()
	}
	want := s.twin.g.Do(x)
	if r.Code != want.Code || r.Value != want.Value || !bytes.Equal(r.Data, want.Data) || !slices.Equal(r.Names, want.Names) {
		s.t.Fatalf("%v is answered %v, want %v", x, r, want)
	}
	switch {
	case x.Kind == api.OpSync:
		s.kept = len(s.done)
	case r.Code == api.OK && x.Kind <= api.OpDrop:
		s.done, s.told = append(s.done, x), append(s.told, s.ground.told())
		s.holds()
	}
}

func (s *story) holds() {
	s.t.Helper()
	if got, want := s.ground.told(), s.twin.told(); got != want {
		s.t.Fatalf("told are\n%s, want\n%s", got, want)
	}
}

// collect does a step of the collector, which changes nothing that is told; behind a cycle without operations just what is in use is taken. (P20.3, P20.5)
func (s *story) collect() {
	s.t.Helper()
	if s.c.Phase() == 0 {
		s.quiet = true
	}
	if !s.step() {
		return
	}
	s.isIn(0)
	s.cycles++
	s.kept = len(s.done)
	if s.holds(); s.quiet {
		s.isTight()
	}
}

// power lets the power go, within some steps of the collector too.
func (s *story) power() {
	s.t.Helper()
	if s.chance.Intn(2) == 0 {
		s.d.Cut(s.chance.Intn(1 << s.chance.Intn(7)))
		for range s.chance.Intn(400) {
			s.c.Step()
		}
	}
	many := len(s.d.Dirty())
	picks := [][]int{nil, slices.Repeat([]int{-1}, many), nil}[s.chance.Intn(3)]
	if picks == nil && s.chance.Intn(2) == 0 {
		for range many {
			picks = append(picks, s.chance.Intn(4))
		}
	}
	s.d.Power(picks)
	*s.ground = *mounted(s.t, s.d)
	told := s.ground.told()
	at := s.kept + slices.Index(s.told[s.kept:], told)
	if at < s.kept {
		s.t.Fatalf("told are\n%s; none of the operations from %d to %d made that", told, s.kept, len(s.done))
	}
	s.done, s.told, s.kept = s.done[:at], s.told[:at+1], at
	s.twin = newGround(s.t, 4096)
	for _, x := range s.done {
		s.twin.do(x)
		if s.twin.g.Free() < 300 {
			s.twin.cycle()
		}
	}
	s.holds()
}

// P20.3 to P20.5: stories by chance, with losses of power, on disks of all sizes.
func TestStories(t *testing.T) {
	many, cycles := map[api.Errno]int{}, 0
	for seed := range int64(36) {
		s := newStory(t, seed, []int{128, 128, 128, 129, 160, 300}[seed%6])
		lazy := 1 + int(seed/6)%3
		for range 350 {
			switch s.chance.Intn(120) {
			case 0:
				s.power()
			case 1:
				for range s.chance.Intn(500) {
					s.collect()
				}
			case 2:
				s.checkpoint()
				s.kept = len(s.done)
			default:
				for range s.chance.Intn(4 * lazy) {
					s.collect()
				}
				s.do(s.op())
			}
		}
		s.end()
		for e, n := range s.many {
			many[e] += n
		}
		cycles += s.cycles
	}
	if many[api.OK] < 3000 || many[api.ErrSpace] < 20 || cycles < 200 {
		t.Errorf("the answers were %v, and %d cycles were done", many, cycles)
	}
}

// end lets a whole cycle come, and then another one behind the last version. (P20.5)
func (s *story) end() {
	s.t.Helper()
	for s.c.Phase() != 0 {
		s.collect()
	}
	s.cycle()
	s.isTight()
	s.holds()
	for _, v := range s.g.Versions() {
		s.ground.do(of(api.OpDrop, v.ID, ""))
	}
	s.cycle()
	if free := s.g.Free(); free != s.d.Size()-50 {
		s.t.Errorf("%d blocks are free", free)
	}
}

// between is a ground with garbage whose chunks are known, if lost; else another version has them.
func between(t *testing.T, lost bool) *ground {
	t.Helper()
	g := filled(t, 200)
	g.do(of(api.OpCreate, 1, "/g"))
	g.do(truncate(1, "/f", 0))
	if lost {
		g.do(of(api.OpDrop, 2, ""))
	} else {
		g.do(of(api.OpClone, 2, ""))
	}
	return g
}

// P20.3: each operation, behind a seventh of all numbers of steps up to a cycle.
func TestBetweenSteps(t *testing.T) {
	data := noise(1, 1000)
	for _, lost := range []bool{false, true} {
		for i, x := range []api.Op{
			write(1, "/f", 0, data), write(1, "/d/a", 900, data), write(1, "/d/c", 7, noise(3, 900)), write(1, "/g", 100, data[100:900]),
			truncate(1, "/f", 300), truncate(1, "/d/a", 0), truncate(1, "/d/a", 2000), rename(1, "/f", "/x"), rename(1, "/d", "/e"),
			of(api.OpUnlink, 1, "/d/b"), of(api.OpCreate, 1, "/n"), of(api.OpMkdir, 1, "/d/m"), of(api.OpSnapshot, 1, ""), of(api.OpClone, 1, ""), of(api.OpDrop, 1, ""),
		} {
			twin := between(t, lost)
			twin.do(x)
			for steps, done := 1+i%7, false; !done; steps += 7 {
				g := between(t, lost)
				for range steps {
					done = done || g.step()
				}
				g.do(x)
				for g.c.Phase() != 0 {
					g.step()
				}
				if g.told() != twin.told() {
					t.Fatalf("%v behind %d steps: told are\n%s, want\n%s", x, steps, g.told(), twin.told())
				}
				if again := mounted(t, g.d); again.told() != twin.told() {
					t.Fatalf("%v behind %d steps: told are\n%s, want\n%s, mounted again", x, steps, again.told(), twin.told())
				}
				g.cycle()
				g.isTight()
			}
		}
	}
}
