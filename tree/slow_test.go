package tree_test

import (
	"fmt"
	"maps"
	"math/rand"
	"slices"
	"strings"
	"testing"

	"kist/api"
	"kist/node"
)

// look is what was found on the way through a tree.
type look struct {
	leaves  []int // the level of each leaf
	numbers []int
	entries []api.Entry
	faults  []string
}

// into goes through the nodes from a block on, whose keys are to be at least low, and below high, if there is one; it is the chapter's words told once more.
func (l *look) into(g *ground, number, level int, low, high string, bound bool) {
	b, e := g.c.Get(number)
	n, f := node.Get(b)
	if e != api.OK || f != api.OK || level > 16 {
		l.faults = append(l.faults, fmt.Sprintf("block %d, on level %d: %v, %v", number, level, e, f))
		return
	}
	l.numbers = append(l.numbers, number)
	for i, key := range n.Keys {
		if key < low || bound && key >= high {
			l.faults = append(l.faults, fmt.Sprintf("block %d: the key %q is not %q to %q", number, key, low, high))
		}
		if n.Leaf {
			l.entries = append(l.entries, api.Entry{Key: key, Val: n.Vals[i]})
			continue
		}
		next, last := high, i == len(n.Keys)-1
		if !last {
			next = n.Keys[i+1]
		}
		l.into(g, n.Kids[i], level+1, key, next, bound || !last)
	}
	if n.Leaf {
		l.leaves = append(l.leaves, level)
	}
}

// sound wants a tree to be sound, and tells its levels, its blocks and what it has. (P15.9)
func (g *ground) sound(root int) (int, []int, []api.Entry) {
	g.t.Helper()
	if root == 0 {
		return 0, nil, nil
	}
	var l look
	l.into(g, root, 1, "", "", false)
	slices.Sort(l.numbers)
	if len(l.faults) > 0 || len(slices.Compact(slices.Clone(l.leaves))) != 1 || len(slices.Compact(slices.Clone(l.numbers))) != len(l.numbers) {
		g.t.Fatalf("the tree %d is not sound: %v; leaves on the levels %v; blocks %v", root, l.faults, l.leaves, l.numbers)
	}
	return l.leaves[0], l.numbers, l.entries
}

// version is a root, and what stands in its tree.
type version struct {
	root  int
	model map[string]string
}

func (v version) entries() []api.Entry {
	var out []api.Entry
	for _, key := range slices.Sorted(maps.Keys(v.model)) {
		out = append(out, api.Entry{Key: key, Val: v.model[key]})
	}
	return out
}

// story is a tree that is changed, and the versions from ahead of the last Begin, of which the last one is that which it began with.
type story struct {
	*ground
	chance *rand.Rand
	keys   func() string
	now    version
	kept   []version
	were   map[int]api.Block
}

func newStory(t *testing.T, seed int64, blocks int, keys func(*rand.Rand) string) *story {
	chance := rand.New(rand.NewSource(seed))
	s := &story{ground: newGround(t, blocks, 1+chance.Intn(40)), chance: chance}
	s.keys = func() string { return keys(chance) }
	s.now = version{0, map[string]string{}}
	s.begin()
	return s
}

func (s *story) begin() {
	s.x.Begin()
	s.kept = append(s.kept, version{s.now.root, maps.Clone(s.now.model)})
	if len(s.kept) > 1+s.chance.Intn(6) {
		s.kept = slices.Delete(s.kept, 0, 1)
	}
	used := s.used()
	for n := range s.d.Size() {
		if _, is := used[n]; !is && s.m.Back(n) {
			s.c.Forget(n)
		}
	}
	s.were = map[int]api.Block{}
	for n := range used {
		s.were[n], _ = s.c.Get(n)
	}
}

// used is the blocks of the versions that are kept.
func (s *story) used() map[int]struct{} {
	used := map[int]struct{}{}
	for _, v := range s.kept {
		_, numbers, _ := s.sound(v.root)
		for _, n := range numbers {
			used[n] = struct{}{}
		}
	}
	return used
}

func (s *story) val() string { return strings.Repeat("v", s.chance.Intn(25)) }

// change puts or deletes a key; where there is no room it wants nothing to have changed.
func (s *story) change() {
	s.t.Helper()
	key, was, free, levels := s.keys(), s.state(), s.m.Free(), s.levels(s.now.root)
	_, there := s.now.model[key]
	var root int
	var e api.Errno
	if s.chance.Intn(100) < 50+s.chance.Intn(10) {
		val := s.val()
		if root, e = s.x.Put(s.now.root, key, val); e == api.OK {
			s.now.model[key] = val
		}
	} else {
		var found bool
		root, found, e = s.x.Delete(s.now.root, key)
		if e == api.OK && found != there || !there && root != s.now.root {
			s.t.Fatalf("Delete(%d, %q) = %d, %v, %v", s.now.root, key, root, found, e)
		}
		if e == api.OK {
			delete(s.now.model, key)
		}
	}
	switch {
	case e == api.OK:
		s.now.root = root
	case e != api.ErrSpace || root != 0 || s.state() != was || free > 2*levels:
		s.t.Fatalf("with %d free, of %d levels: %d, %v; %s was %s", free, levels, root, e, s.state(), was)
	}
}

func (s *story) step() {
	s.t.Helper()
	switch what := s.chance.Intn(100); {
	case what < 85:
		s.change()
	case what < 92:
		s.begin()
	case what < 94:
		s.x.Undo()
		last := s.kept[len(s.kept)-1]
		s.now = version{last.root, maps.Clone(last.model)}
	default:
		if e := s.c.Flush(); e != api.OK {
			s.t.Fatal(e)
		}
	}
}

// holds wants all to be as told.
func (s *story) holds() {
	s.t.Helper()
	levels, numbers, entries := s.sound(s.now.root)
	if want := s.now.entries(); !slices.Equal(entries, want) {
		s.t.Fatalf("the tree has %v, want %v", entries, want)
	}
	if s.levels(s.now.root) != levels || !slices.Equal(s.blocks(s.now.root), numbers) {
		s.t.Fatalf("%d levels, %v; want %d, %v", s.levels(s.now.root), s.blocks(s.now.root), levels, numbers)
	}
	s.now.asked(s)
	used := s.used()
	news := slices.DeleteFunc(numbers, func(n int) bool { _, is := used[n]; return is })
	s.fresh(news...)
	if taken := s.d.Size() - 50 - s.m.Free(); taken != len(used)+len(news) {
		s.t.Fatalf("%d blocks are taken, %d are kept, and new are %v", taken, len(used), news)
	}
	s.stay(s.were)
	for _, v := range s.kept {
		if _, _, entries := s.sound(v.root); !slices.Equal(entries, v.entries()) {
			s.t.Fatalf("the tree %d has %v, want %v", v.root, entries, v.entries())
		}
	}
}

// asked holds Get and Scan, of some keys, against the model.
func (v version) asked(s *story) {
	s.t.Helper()
	for range 3 {
		key := s.keys()
		want, there := v.model[key]
		if val, found, e := s.x.Get(v.root, key); val != want || found != there || e != api.OK {
			s.t.Fatalf("Get(%d, %q) = %q, %v, %v, want %q, %v", v.root, key, val, found, e, want, there)
		}
	}
	from, to, most := s.keys(), s.keys(), s.chance.Intn(30)
	entries := slices.DeleteFunc(v.entries(), func(e api.Entry) bool { return e.Key < from || e.Key >= to })
	entries = entries[:min(most, len(entries))]
	if got, e := s.x.Scan(v.root, from, to, most); e != api.OK || !slices.Equal(got, entries) {
		s.t.Fatalf("Scan(%d, %q, %q, %d) = %v, %v, want %v", v.root, from, to, most, got, e, entries)
	}
}

// someKeys is kinds of keys, of each a source.
func someKeys() map[string]func(*rand.Rand) string {
	return map[string]func(*rand.Rand) string{
		"long": func(chance *rand.Rand) string { return long(chance.Intn(150)) },
		"short": func(chance *rand.Rand) string {
			return string([]byte{byte(chance.Intn(256)), byte(chance.Intn(256))}[:1+chance.Intn(2)])
		},
		"any": func(chance *rand.Rand) string {
			return anyKey(chance, 1+chance.Intn(24))
		},
		"of files": func(chance *rand.Rand) string {
			return fmt.Sprintf("%c\x00\x00%c%c", "dix"[chance.Intn(3)], chance.Intn(5), chance.Intn(40))
		},
	}
}

// anyKey is a key of so many bytes, mostly like others in its first ones.
func anyKey(chance *rand.Rand, many int) string {
	key := bytesOf(many)
	for range 2 {
		key[chance.Intn(many)] = byte(chance.Intn(256))
	}
	return string(key)
}

func bytesOf(many int) []byte { return []byte(strings.Repeat("m", many)) }

// P15.2 to P15.5, P15.7, P15.8, P15.9
func TestAsAMap(t *testing.T) {
	for name, keys := range someKeys() {
		for seed := range int64(5) {
			s := newStory(t, seed, 60+int(seed)*60, keys)
			for i := range 400 {
				s.step()
				if i%2 == 0 {
					s.holds()
				}
				if t.Failed() {
					t.Fatalf("keys that are %s, seed %d, step %d", name, seed, i)
				}
			}
		}
	}
}
