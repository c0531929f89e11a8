package files_test

import (
	"bytes"
	"fmt"
	"maps"
	"math"
	"math/rand"
	"slices"
	"strings"
	"testing"

	"kist/api"
	"kist/cut"
	"kist/names"
)

// thing is a file or a directory.
type thing struct {
	dir  bool
	data []byte
}

// model is the chapter told once more: what stands at each path, but for /.
type model map[string]thing

// split is a path as the one above it and a name.
func split(path string) (string, string) {
	at := strings.LastIndex(path, "/")
	return path[:at], path[at+1:]
}

// prefixes is the paths that a path leads through, / first, as "".
func prefixes(path string) []string {
	out := []string{""}
	for i := 1; i < len(path); i++ {
		if path[i] == '/' {
			out = append(out, path[:i])
		}
	}
	if path != "/" {
		out = append(out, path)
	}
	return out
}

func isPath(path string) bool {
	_, e := names.Split(path)
	return e == api.OK
}

// find is what stands at a path.
func (m model) find(path string) (thing, api.Errno) {
	if !isPath(path) {
		return thing{}, api.ErrPath
	}
	at := thing{dir: true}
	for _, p := range prefixes(path)[1:] {
		if !at.dir {
			return thing{}, api.ErrFile
		}
		next, there := m[p]
		if !there {
			return thing{}, api.ErrNone
		}
		at = next
	}
	return at, api.OK
}

func (m model) names(path string) []string {
	var out []string
	for p := range m {
		if above, name := split(p); above == strings.TrimSuffix(path, "/") {
			out = append(out, name)
		}
	}
	slices.Sort(out)
	return out
}

// vacant tells whether something may come to a path that is one.
func (m model) vacant(path string) api.Errno {
	if path == "/" {
		return api.ErrExists
	}
	above, _ := split(path)
	at, e := m.find(max(above, "/"))
	switch {
	case e != api.OK:
		return e
	case !at.dir:
		return api.ErrFile
	}
	if _, there := m[path]; there {
		return api.ErrExists
	}
	return api.OK
}

func (m model) make(path string, dir bool) api.Errno {
	if !isPath(path) {
		return api.ErrPath
	}
	e := m.vacant(path)
	if e == api.OK {
		m[path] = thing{dir: dir}
	}
	return e
}

// set puts other bytes into a file.
func (m model) set(path string, other func(data []byte) []byte) api.Errno {
	at, e := m.find(path)
	switch {
	case e != api.OK:
		return e
	case at.dir:
		return api.ErrDir
	}
	m[path] = thing{data: other(at.data)}
	return api.OK
}

func (m model) write(path string, off int, more []byte) api.Errno {
	switch {
	case off < 0:
		return api.ErrArg
	case len(more) > 1024 || off+len(more) > 8192:
		return api.ErrBig
	}
	return m.set(path, func(data []byte) []byte { return written(data, off, more) })
}

func (m model) truncate(path string, size int) api.Errno {
	switch {
	case size < 0:
		return api.ErrArg
	case size > 8192:
		return api.ErrBig
	}
	return m.set(path, func(data []byte) []byte {
		out := make([]byte, size)
		copy(out, data)
		return out
	})
}

func (m model) unlink(path string) api.Errno {
	at, e := m.find(path)
	switch {
	case e != api.OK:
		return e
	case path == "/":
		return api.ErrLoop
	case at.dir && len(m.names(path)) > 0:
		return api.ErrNotEmpty
	}
	delete(m, path)
	return api.OK
}

func (m model) rename(path, to string) api.Errno {
	if !isPath(path) || !isPath(to) {
		return api.ErrPath
	}
	if _, e := m.find(path); e != api.OK {
		return e
	}
	if path == "/" || strings.HasPrefix(to+"/", path+"/") {
		return api.ErrLoop
	}
	if e := m.vacant(to); e != api.OK {
		return e
	}
	moved := model{}
	for p, at := range m {
		if behind, below := strings.CutPrefix(p+"/", path+"/"); below {
			moved[strings.TrimSuffix(to+"/"+behind, "/")] = at
		}
	}
	for p := range moved {
		if strings.Count(p, "/") > 6 {
			return api.ErrBig
		}
	}
	maps.DeleteFunc(m, func(p string, _ thing) bool { return strings.HasPrefix(p+"/", path+"/") })
	maps.Copy(m, moved)
	return api.OK
}

// version is one, and what is to be in it.
type version struct {
	v     api.Version
	model model
}

// story is versions that are changed, and held against their models.
type story struct {
	*ground
	chance *rand.Rand
	all    []version
	many   map[api.Errno]int // how often each error came
}

func newStory(t *testing.T, seed int64, blocks int) *story {
	chance := rand.New(rand.NewSource(seed))
	return &story{
		ground: newGround(t, blocks, 1+chance.Intn(40)),
		chance: chance,
		all:    []version{{empty(), model{}}},
		many:   map[api.Errno]int{},
	}
}

// path is mostly one that there is.
func (s *story) path(m model) string {
	there := slices.Sorted(maps.Keys(m))
	switch what := s.chance.Intn(20); {
	case what == 0:
		return []string{"", "x", "//", "/a/", "/a//b", "/1/2/3/4/5/6/7", "/a/..", "/ "}[s.chance.Intn(8)]
	case what == 1:
		return "/"
	case what < 4 || len(there) == 0:
		return s.below(m)
	}
	return there[s.chance.Intn(len(there))]
}

// below is a path mostly one name below one that there is.
func (s *story) below(m model) string {
	there := append(slices.Sorted(maps.Keys(m)), "")
	path := there[s.chance.Intn(len(there))]
	for range 1 + s.chance.Intn(10)/9 {
		path += "/" + string("abcdef"[s.chance.Intn(6)])
	}
	return path
}

// bytes is up to so many of few sources.
func (s *story) bytes(most int) []byte {
	many := s.chance.Intn(most + 1)
	from := s.chance.Intn(3)
	switch seed := s.chance.Int63n(6); {
	case seed == 0:
		return make([]byte, many)
	case seed == 1:
		return bytes.Repeat([]byte("text "), many/5+1)[:many]
	default:
		return noise(seed, many+from*100)[from*100:]
	}
}

// place is a number up to the greatest that may be, mostly about where chunks begin and end, or one that may not be.
func (s *story) place() int {
	switch s.chance.Intn(12) {
	case 0:
		return -1 - s.chance.Intn(2)
	case 1:
		return 8192 + s.chance.Intn(3)
	case 2:
		return s.chance.Intn(8193)
	case 3, 4, 5, 6:
		return 512*s.chance.Intn(4) + s.chance.Intn(3) - 1
	}
	return s.chance.Intn(1500)
}

// done is what becomes of a version by an operation, and by the same of its model.
func (s *story) done(now version) (api.Version, api.Errno, api.Errno) {
	m, path := now.model, s.path(now.model)
	switch s.chance.Intn(12) {
	case 0, 1, 2:
		path, dir := s.below(m), s.chance.Intn(3) == 0
		if s.chance.Intn(10) == 0 {
			path = s.path(m)
		}
		v, e := s.f.Make(now.v, path, dir)
		return v, e, m.make(path, dir)
	case 3, 4, 5, 6, 7:
		off, data := s.place(), s.bytes([]int{0, 70, 300, 1024, 1024, 1024, 1030}[s.chance.Intn(7)])
		v, e := s.f.Write(now.v, path, off, data)
		return v, e, m.write(path, off, data)
	case 8:
		size := s.place()
		v, e := s.f.Truncate(now.v, path, size)
		return v, e, m.truncate(path, size)
	case 9, 10:
		to := s.below(m)
		if s.chance.Intn(3) == 0 {
			to = s.path(m)
		}
		v, e := s.f.Rename(now.v, path, to)
		return v, e, m.rename(path, to)
	}
	v, e := s.f.Unlink(now.v, path)
	return v, e, m.unlink(path)
}

func (s *story) step() {
	s.t.Helper()
	if s.chance.Intn(15) == 0 {
		s.fork()
		return
	}
	i := s.chance.Intn(len(s.all))
	was, free := s.all[i], s.m.Free()
	now := version{was.v, maps.Clone(was.model)}
	s.begin()
	v, e, want := s.done(now)
	s.many[e]++
	switch {
	case e == api.ErrSpace && want == api.OK && free < 300:
		if v != (api.Version{}) {
			s.t.Fatalf("beside an error the version is %v", v)
		}
		s.x.Undo()
		s.s.Undo()
		if s.m.Free() != free {
			s.t.Fatalf("%d blocks are free, were %d", s.m.Free(), free)
		}
		s.collect(s.versions()...)
	case e != want || e != api.OK && v != (api.Version{}):
		s.t.Fatalf("answered are %v, %v, want %v", v, e, want)
	case e != api.OK && s.m.Free() != free:
		s.t.Fatalf("%d blocks are free, were %d", s.m.Free(), free)
	case e == api.OK && (v.ID != was.v.ID || !v.Fixed || v.Next < was.v.Next):
		s.t.Fatalf("%v was made out of %v", v, was.v)
	case e == api.OK:
		s.all[i] = version{v, now.model}
	}
}

// fork lets a version be there twice, or no more.
func (s *story) fork() {
	i := s.chance.Intn(len(s.all))
	if len(s.all) < 4 && s.chance.Intn(3) > 0 {
		s.all = append(s.all, version{s.all[i].v, maps.Clone(s.all[i].model)})
		return
	}
	if len(s.all) > 1 {
		s.all = slices.Delete(s.all, i, i+1)
	}
}

func (s *story) versions() []api.Version {
	var out []api.Version
	for _, v := range s.all {
		out = append(out, v.v)
	}
	return out
}

// collect lets all blocks go that these versions do not have.
func (g *ground) collect(kept ...api.Version) {
	g.t.Helper()
	used := map[int]struct{}{}
	for _, v := range kept {
		numbers, e := g.x.Blocks(v.Root)
		list, f := g.f.Chunks(v)
		if e != api.OK || f != api.OK {
			g.t.Fatal(e, f)
		}
		for _, c := range list {
			blocks, e := g.s.Blocks(c)
			if e != api.OK {
				g.t.Fatal(e)
			}
			numbers = append(numbers, blocks...)
		}
		for _, n := range numbers {
			used[n] = struct{}{}
		}
	}
	g.begin()
	for n := range g.d.Size() {
		if _, is := used[n]; !is && g.m.Back(n) {
			g.c.Forget(n)
			g.s.Lose(n)
		}
	}
}

// told holds all that is told of a version against its model. (P18.8)
func (s *story) told(v version) {
	s.t.Helper()
	for path, at := range v.model {
		s.stats(v.v, path, at.dir, len(at.data))
		if !at.dir {
			off, n := s.chance.Intn(1+len(at.data)), s.chance.Intn(600)
			s.reads(v.v, path, off, n, at.data[off:min(off+n, len(at.data))])
			s.reads(v.v, path, 0, 9000, at.data)
			continue
		}
		s.lists(v.v, path, v.model.names(path)...)
	}
	s.lists(v.v, "/", v.model.names("/")...)
	for range 5 {
		path := s.path(v.model)
		at, want := v.model.find(path)
		if dir, size, e := s.f.Stat(v.v, path); e != want || dir != at.dir || size != len(at.data) {
			s.t.Fatalf("Stat(%s) = %v, %d, %v, want %v", path, dir, size, e, want)
		}
	}
}

// formed wants a version's tree to have just the keys that its model asks for; chunk is what has which bytes, by their first block, in all versions. (P18.9)
func (s *story) formed(v version, same map[string]api.Chunk) {
	s.t.Helper()
	inodes := map[string]string{"": "\x00\x00\x00"}
	want, entries := map[string]string{}, s.entries(v.v)
	for _, path := range slices.Sorted(maps.Keys(v.model)) { // what is above comes first
		above, name := split(path)
		at, leads := v.model[path], "d"+inodes[above]+name
		inode := entries[leads]
		inodes[path] = inode
		size := len(at.data)
		want[leads] = inode
		want["i"+inode] = string([]byte{1, byte(size >> 8), byte(size)})
		if at.dir {
			want["i"+inode] = "\x02\x00\x00"
		}
		for place, data := range cuts(at.data) {
			key := "x" + inode + string([]byte{byte(place >> 8), byte(place)})
			want[key] = entries[key]
			s.chunk(entries[key], data, same)
		}
	}
	if !maps.Equal(entries, want) || len(slices.Compact(slices.Sorted(maps.Values(inodes)))) != len(inodes) {
		s.t.Fatalf("the tree has %q, want %q", entries, want)
	}
}

func (s *story) entries(v api.Version) map[string]string {
	s.t.Helper()
	list, e := s.x.Scan(v.Root, "", "", math.MaxInt)
	if e != api.OK {
		s.t.Fatal(e)
	}
	out := map[string]string{}
	for _, entry := range list {
		out[entry.Key] = entry.Val
	}
	return out
}

// chunk wants bytes to stand in a chunk, which is the same wherever they are.
func (s *story) chunk(val string, data []byte, same map[string]api.Chunk) {
	s.t.Helper()
	if len(val) != 4 {
		s.t.Fatalf("at a place stands %q", val)
	}
	c := api.Chunk{Block: int(val[0])<<8 | int(val[1]), Len: int(val[2])<<8 | int(val[3])}
	if got, e := s.s.Load(c); e != api.OK || !bytes.Equal(got, data) {
		s.t.Fatalf("Load(%v) = %x, %v, want %x", c, got, e, data)
	}
	if other, there := same[string(data)]; there && other != c {
		s.t.Fatalf("the same bytes stand in %v and %v", c, other)
	}
	same[string(data)] = c
}

// cuts is bytes as they are cut.
func cuts(data []byte) [][]byte {
	var out [][]byte
	for _, many := range cut.Cut(data) {
		out, data = append(out, data[:many]), data[many:]
	}
	return out
}

// P18.1 to P18.9
func TestAsAModel(t *testing.T) {
	many := map[api.Errno]int{}
	for seed := range int64(24) {
		s := newStory(t, seed, []int{70, 150, 400, 900}[seed%4])
		for i := range 300 {
			s.step()
			if i%10 == 0 {
				same := map[string]api.Chunk{}
				for _, v := range s.all {
					s.told(v)
					s.formed(v, same)
				}
			}
			if s.chance.Intn(10) == 0 {
				s.c.Flush()
			}
			if t.Failed() {
				t.Fatalf("seed %d, step %d", seed, i)
			}
		}
		for e, n := range s.many {
			many[e] += n
		}
	}
	for _, e := range []api.Errno{api.OK, api.ErrArg, api.ErrSpace, api.ErrBig, api.ErrPath, api.ErrNone, api.ErrExists, api.ErrDir, api.ErrFile, api.ErrNotEmpty, api.ErrLoop} {
		if many[e] < 10 {
			t.Errorf("the error %d came %d times", e, many[e])
		}
	}
	t.Log(fmt.Sprint(many))
}
