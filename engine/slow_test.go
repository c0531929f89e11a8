package engine_test

import (
	"bytes"
	"maps"
	"math/rand"
	"slices"
	"strings"
	"testing"

	"kist/api"
)

// story is an engine that does operations by chance, and loses its power; it is held against the worlds that they made.
type story struct {
	*ground
	chance *rand.Rand
	worlds []world // behind each operation that changed something, since the last one that is sure to be kept, which stands first
	many   map[api.Errno]int
	lost   int // operations that were
}

func newStory(t *testing.T, seed int64, sectors int) *story {
	return &story{
		ground: newGround(t, sectors),
		chance: rand.New(rand.NewSource(seed)),
		worlds: []world{newWorld()},
		many:   map[api.Errno]int{},
	}
}

func (s *story) now() world { return s.worlds[len(s.worlds)-1] }

// sure tells that all operations so far are to be kept.
func (s *story) sure() { s.worlds = s.worlds[len(s.worlds)-1:] }

// path is mostly one that there is.
func (s *story) path(m model) string {
	there := slices.Sorted(maps.Keys(m))
	switch what := s.chance.Intn(24); {
	case what == 0:
		return []string{"", "x", "//", "/a/", "/a//b", "/1/2/3/4/5/6/7", "/a/..", "/" + strings.Repeat("n", s.chance.Intn(12000))}[s.chance.Intn(8)]
	case what == 1:
		return "/"
	case what < 4 || len(there) == 0:
		return s.below(m)
	}
	return there[s.chance.Intn(len(there))]
}

// below is a path mostly one name below one that there is.
func (s *story) below(m model) string {
	there := append(slices.Sorted(maps.Keys(m)), "")
	path := there[s.chance.Intn(len(there))]
	for range 1 + s.chance.Intn(10)/9 {
		path += "/" + string("abcdef"[s.chance.Intn(6)])
	}
	return path
}

// bytes is some of few sources, so that the same chunks come again.
func (s *story) bytes() []byte {
	most := []int{0, 20, 70, 200, 300, 700, 1024, 1030}[s.chance.Intn(8)]
	many, from := s.chance.Intn(most+1), 100*s.chance.Intn(3)
	if s.chance.Intn(4) == 0 {
		return bytes.Repeat([]byte("text "), many/5+1)[:many]
	}
	return []byte(noise(s.chance.Int63n(6), many+from)[from:])
}

// place is a number up to the greatest that may be, or one that may not be.
func (s *story) place() int {
	switch s.chance.Intn(20) {
	case 0:
		return -1 - s.chance.Intn(2)
	case 1:
		return 8190 + s.chance.Intn(5)
	}
	return s.chance.Intn(1500)
}

// op is an operation by chance, of a version that there is mostly.
func (s *story) op() api.Op {
	w := s.now()
	v := s.chance.Intn(w.next + 1)
	if ids := w.ids(); len(ids) > 0 && s.chance.Intn(20) > 0 {
		v = ids[s.chance.Intn(len(ids))]
	}
	m := w.of[v]
	path := s.path(m)
	switch s.chance.Intn(30) {
	case 0, 1:
		return mkdir(v, s.below(m))
	case 2, 3, 4:
		return create(v, s.below(m))
	case 5:
		return create(v, path)
	case 6, 7:
		return truncate(v, path, s.place())
	case 8, 9:
		return rename(v, path, s.below(m))
	case 10:
		return rename(v, path, s.path(m))
	case 11, 12:
		return unlink(v, path)
	case 13:
		return snapshot(v)
	case 14:
		return clone(v)
	case 15, 16:
		if len(w.of) > 3 || s.chance.Intn(30) == 0 {
			return drop(v)
		}
		return versions()
	case 17:
		return read(v, path, s.place(), s.place())
	case 18:
		return list(v, path)
	case 19:
		return stat(v, path)
	case 20:
		return api.Op{Kind: s.chance.Intn(40) - 10, Version: v, Path: path, To: s.below(m), Off: s.place(), Len: s.place(), Data: s.bytes()}
	}
	return write(v, path, s.place(), string(s.bytes()))
}

// do does an operation, and holds what is answered against what is to be.
func (s *story) do(x api.Op) {
	s.t.Helper()
	w, free := s.now().other(), s.g.Free()
	want := w.do(x)
	r := s.g.Do(x)
	s.many[r.Code]++
	if r.Code == api.ErrSpace && want.Code == api.OK && free < 300 && x.Kind <= api.OpUnlink {
		if r.Value != 0 || len(r.Data)+len(r.Names) > 0 || s.g.Free() < free {
			s.t.Fatalf("answered is %v; %d blocks are free, were %d", r, s.g.Free(), free)
		}
		s.collect()
		s.checkpoint()
		s.sure()
		return
	}
	if r.Code != want.Code || r.Value != want.Value || !bytes.Equal(r.Data, want.Data) || !slices.Equal(r.Names, want.Names) {
		s.t.Fatalf("%v is answered %v, want %v", x, r, want)
	}
	switch {
	case x.Kind == api.OpSync:
		s.sure()
	case r.Code == api.OK && changing(x):
		s.worlds = append(s.worlds, w)
	}
}

// step is one of an engine's days.
func (s *story) step() {
	s.t.Helper()
	if s.chance.Intn(30) > 0 {
		s.do(s.op())
		return
	}
	switch s.chance.Intn(8) {
	case 0, 1:
		s.do(sync())
	case 2:
		s.checkpoint()
		s.sure()
	case 3:
		s.collect()
	case 4:
		s.mount()
		s.sure()
	case 5:
		s.g.Watch()
	default:
		s.lastWrites()
		s.power()
	}
	s.holds()
}

// lastWrites lets the engine go on where the disk writes some more only. What is cut off is not there when it is read again: what an engine answers then is nobody's.
func (s *story) lastWrites() {
	s.t.Helper()
	if s.chance.Intn(3) == 0 {
		s.d.Cut(s.chance.Intn(1 << s.chance.Intn(7)))
	}
	if s.chance.Intn(4) == 0 {
		s.collect()
	}
	for range s.chance.Intn(25) {
		switch s.chance.Intn(20) {
		case 0:
			s.g.Do(sync())
			continue
		case 1:
			s.g.Checkpoint()
			continue
		}
		x, w := s.op(), s.now().other()
		want := w.do(x)
		switch r := s.g.Do(x); {
		case r.Code == api.ErrSpace:
		case r.Code != want.Code:
			return
		case r.Code == api.OK && changing(x):
			s.worlds = append(s.worlds, w)
		}
	}
}

func changing(x api.Op) bool { return x.Kind >= api.OpMkdir && x.Kind <= api.OpDrop }

// holds holds all that is told against the world of now.
func (s *story) holds() {
	s.t.Helper()
	if got, want := s.told(), s.now().told(); got != want {
		s.t.Fatalf("told are\n%s, want\n%s", got, want)
	}
}

// picks lets some persist of what was written.
func (s *story) picks() []int {
	many := len(s.d.Dirty())
	switch s.chance.Intn(4) {
	case 0:
		return nil
	case 1:
		return slices.Repeat([]int{-1}, many) // the last version of each
	}
	var out []int
	for range many {
		out = append(out, s.chance.Intn(4))
	}
	return out
}

// power lets the power go, within some Mounts too. (P19.8)
func (s *story) power() {
	s.t.Helper()
	s.d.Power(s.picks())
	for range s.chance.Intn(3) {
		s.d.Cut(s.chance.Intn(1 << s.chance.Intn(7)))
		s.mount()
		s.d.Power(s.picks())
	}
	s.mount()
	at := slices.IndexFunc(s.worlds, s.isThere(s.told()))
	if at < 0 {
		s.t.Fatalf("told are\n%s; none of %d operations made that; the first was\n%s", s.told(), len(s.worlds), s.worlds[0].told())
	}
	s.lost += len(s.worlds) - 1 - at
	s.worlds = s.worlds[at : at+1]
}

func (s *story) isThere(told string) func(w world) bool {
	return func(w world) bool { return w.told() == told }
}

// P19.2 to P19.8: stories by chance, with collectors, on disks of all sizes.
func TestStories(t *testing.T) {
	many, lost := map[api.Errno]int{}, 0
	for seed := range int64(140) {
		s := newStory(t, seed, []int{128, 128, 129, 150, 200, 400, 4096}[seed%7])
		for range 300 {
			s.step()
		}
		s.holds()
		s.isWhole()
		for e, n := range s.many {
			many[e] += n
		}
		lost += s.lost
	}
	for _, e := range []api.Errno{api.OK, api.ErrArg, api.ErrBig, api.ErrSpace, api.ErrPath, api.ErrNone, api.ErrExists, api.ErrDir, api.ErrFile, api.ErrNotEmpty, api.ErrLoop, api.ErrVersion, api.ErrVersions, api.ErrFixed, api.ErrOp} {
		if many[e] < 20 {
			t.Errorf("%v was answered %d times", e, many[e])
		}
	}
	if lost < 100 {
		t.Errorf("%d operations were lost", lost)
	}
}

// isWhole wants just the blocks that are in use to be taken, once nothing but what is kept counts.
func (s *story) isWhole() {
	s.t.Helper()
	s.collect()
	s.checkpoint()
	s.sure()
	s.holds()
	used := s.used()
	if free := s.g.Free(); free != s.d.Size()-50-len(used) {
		s.t.Fatalf("%d blocks are free, %d in use", free, len(used))
	}
	s.mount()
	if free := s.g.Free(); free != s.d.Size()-50-len(used) {
		s.t.Fatalf("%d blocks are free, %d in use", free, len(used))
	}
	s.holds()
}

// script is operations with all that comes in between: "sync", "checkpoint", "collect", "mount".
func script() []any {
	return []any{
		create(1, "/f"), write(1, "/f", 0, noise(1, 700)), mkdir(1, "/d"), "sync",
		write(1, "/f", 300, noise(2, 500)), snapshot(1), rename(1, "/f", "/d/g"), "checkpoint",
		unlink(1, "/d/g"), clone(2), drop(2), create(3, "/h"), "collect", write(3, "/h", 0, noise(1, 700)), "sync", truncate(3, "/h", 5),
		"mount", write(3, "/f", 0, noise(2, 1024)), write(3, "/f", 0, noise(3, 1024)), "collect", "checkpoint",
		create(1, "/f"), write(1, "/f", 5, noise(1, 700)), unlink(3, "/f"), "mount", rename(1, "/f", "/g"), "checkpoint", drop(3), "collect", "sync", clone(1),
	}
}

// plays does a step of a script.
func (g *ground) plays(x any) {
	g.t.Helper()
	switch x {
	case "sync":
		g.do(sync())
	case "checkpoint":
		g.checkpoint()
	case "collect":
		g.collect()
	case "mount":
		g.mount()
	default:
		g.do(x.(api.Op))
	}
}

// P19.8: the power goes at each write and each flush of a script, within Mount too, and all, none or some persist.
func TestEachLossOfPower(t *testing.T) {
	steps := script()
	g := newGround(t, 128)
	told, least, behind := []string{g.told()}, []int{0}, []int{0}
	for _, x := range steps {
		g.plays(x)
		kept := least[len(least)-1]
		if _, is := x.(api.Op); is {
			told = append(told, g.told())
		} else if x != "collect" {
			kept = len(told) - 1
		}
		least, behind = append(least, kept), append(behind, len(told)-1)
	}
	for i, x := range steps {
		whole := played(t, steps[:i+1])
		for n, done := 0, false; !done; n++ {
			for seed := range int64(6) {
				g := played(t, steps[:i])
				g.d.Cut(n)
				g.plays(x)
				from, to := least[i], behind[i+1]
				done = slices.Equal(g.d.Dirty(), whole.d.Dirty()) && sectors(g.d) == sectors(whole.d)
				if done { // nothing of the step was cut
					from = least[i+1]
				}
				g.losePower(seed)
				if got := g.told(); !slices.Contains(told[from:to+1], got) {
					t.Fatalf("step %d (%v), cut behind %d, picks %d: told are %s", i, x, n, seed, got)
				}
			}
		}
	}
}

// played is a ground behind these steps.
func played(t *testing.T, steps []any) *ground {
	t.Helper()
	g := newGround(t, 128)
	for _, x := range steps {
		g.plays(x)
	}
	return g
}

// losePower lets the power go, so that nothing persists, or all, or some by chance; and then within a Mount or two.
func (g *ground) losePower(seed int64) {
	g.t.Helper()
	chance := rand.New(rand.NewSource(seed))
	for i := range 1 + seed/2 {
		if i > 0 {
			g.d.Cut(chance.Intn(12))
			g.mount()
		}
		var picks []int
		for range g.d.Dirty() {
			picks = append(picks, []int{0, -1, chance.Intn(4)}[min(seed, 2)])
		}
		g.d.Power(picks)
	}
	g.mount()
}

// Between checkpoints nothing is written but the journal; and none of what the superblock says is written by what comes behind, a checkpoint among it.
func TestWhatIsWritten(t *testing.T) {
	for seed := range int64(12) {
		s := newStory(t, seed, []int{128, 200, 400}[seed%3])
		for i := range 150 {
			gen, kept, was := s.gen(), s.kept(), s.d.Copy()
			switch i % 25 {
			case 10:
				s.collect()
			case 20:
				s.checkpoint()
			default:
				s.do(s.op())
			}
			for at := range s.d.Size() {
				a, _ := was.Read(at)
				b, _ := s.d.Read(at)
				_, is := slices.BinarySearch(kept, at)
				journals := at >= api.JournalAt && at < api.FirstBlock
				if !bytes.Equal(a, b) && (is || s.gen() == gen && !journals) {
					t.Fatalf("the sector %d was written", at)
				}
			}
		}
	}
}
