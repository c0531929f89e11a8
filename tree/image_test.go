package tree_test

import (
	"fmt"
	"math"
	"math/rand"
	"slices"
	"strings"
	"testing"

	"kist/alloc"
	"kist/api"
	"kist/node"
	"kist/tree"
)

// lay puts a node into a block by hand, and wants it to be one that may be.
func (g *ground) lay(number int, n node.Node) {
	g.t.Helper()
	b, e := node.Put(n)
	if e != api.OK {
		g.t.Fatalf("%v may not be", n)
	}
	if !g.m.Taken(number) {
		g.m.Mark(number)
	}
	if e := g.c.Put(number, b); e != api.OK {
		g.t.Fatalf("block %d: %v", number, e)
	}
}

// leaf is one of keys, each its own value.
func leaf(keys ...string) node.Node {
	return node.Node{Leaf: true, Keys: keys, Vals: slices.Clone(keys)}
}

func inner(kids []int, keys ...string) node.Node { return node.Node{Keys: keys, Kids: kids} }

// own is entries whose keys are their values.
func own(keys ...string) []api.Entry {
	var out []api.Entry
	for _, key := range keys {
		out = append(out, pair(key, key))
	}
	return out
}

// P15.6
func TestRootsThatThereAreNot(t *testing.T) {
	g := newGround(t, 30, 9)
	for _, root := range []int{math.MinInt, -1, 1, 2, 49, 80, 81, 65535, 65536, math.MaxInt} {
		g.refuses(root, api.ErrRange)
	}
	for _, root := range []int{50, 60, 79} {
		g.refuses(root, api.ErrSum)
	}
}

// P15.6
func TestBlocksThatAreNoNodes(t *testing.T) {
	g := newGround(t, 30, 9)
	for i, b := range []api.Block{
		{Kind: api.KindChunk, Body: []byte{1, 1, 'k', 0}},
		{Kind: api.KindMore, Body: []byte{1, 1, 'k', 0}},
		{Kind: api.KindLeaf},
		{Kind: api.KindLeaf, Body: []byte{0}},
		{Kind: api.KindLeaf, Body: []byte{1, 0, 0}},
		{Kind: api.KindLeaf, Body: []byte{2, 1, 'k', 0, 1, 'a', 0}},
		{Kind: api.KindInner, Body: []byte{1, 1, 'k', 60}},
	} {
		if e := g.c.Put(50+i, b); e != api.OK {
			t.Fatal(e)
		}
		g.refuses(50+i, api.ErrImage)
		g.lay(79, inner([]int{50 + i}, ""))
		g.refuses(79, api.ErrImage)
	}
}

// P15.6: the kid 0 is no empty tree.
func TestKidsThatThereAreNot(t *testing.T) {
	g := newGround(t, 30, 9)
	for _, kid := range []int{0, 49, 80, 65535} {
		g.lay(50, inner([]int{kid}, ""))
		g.refuses(50, api.ErrRange)
	}
	g.lay(50, inner([]int{66}, "a"))
	g.refuses(50, api.ErrSum)
}

// chain is a tree of so many levels, each with one node, whose root is block 50.
func (g *ground) chain(levels int, last node.Node) {
	for i := range levels - 1 {
		g.lay(50+i, inner([]int{50 + i + 1}, ""))
	}
	g.lay(50+levels-1, last)
}

// P15.6
func TestTreesThatAreDeep(t *testing.T) {
	for levels := 1; levels <= 16; levels++ {
		g := newGround(t, 120, 9)
		g.chain(levels, leaf("k", "l"))
		g.has(50, own("k", "l")...)
		if g.levels(50) != levels || len(g.blocks(50)) != levels {
			t.Errorf("%d levels, blocks %v; want %d", g.levels(50), g.blocks(50), levels)
		}
		s := g.put(50, "m", "m")
		g.sound(s)
		g.has(s, own("k", "l", "m")...)
		u := g.delete(50, "k")
		g.sound(u)
		g.has(u, own("l")...)
		if root := g.delete(g.delete(50, "k"), "l"); root != 0 {
			t.Errorf("the root is %d", root)
		}
	}
	for _, levels := range []int{17, 18, 25} {
		g := newGround(t, 60, 9)
		g.chain(levels, leaf("k", "l"))
		g.refuses(50, api.ErrImage)
	}
	g := newGround(t, 60, 9)
	g.chain(17, leaf("k"))
	g.c.Forget(66) // the block on level 17 is not asked for any more
	g.refuses(50, api.ErrImage)
	g.c.Forget(65)
	g.refuses(50, api.ErrSum)
}

// P15.6
func TestTreesThatLeadRound(t *testing.T) {
	g := newGround(t, 60, 9)
	g.lay(50, inner([]int{50}, ""))
	g.refuses(50, api.ErrImage)
	g.lay(51, inner([]int{52}, ""))
	g.lay(52, inner([]int{53, 51}, "", "c"))
	g.lay(53, leaf("a"))
	g.refusesAll(51, api.ErrImage)
	if val, found, e := g.x.Get(51, "d"); val != "" || found || e != api.ErrImage {
		t.Errorf("Get() = %q, %v, %v", val, found, e)
	}
	if val, found, e := g.x.Get(51, "a"); val != "a" || !found || e != api.OK {
		t.Errorf("Get() = %q, %v, %v", val, found, e)
	}
}

// P15.6: 15 nodes each of whose two kids are the next one would be gone through 2^15 times.
func TestBlocksThatAreComeToTwice(t *testing.T) {
	g := newGround(t, 60, 9)
	for i := range 15 {
		g.lay(50+i, inner([]int{51 + i, 51 + i}, "", "k"))
	}
	g.lay(65, leaf("k"))
	g.refusesAll(50, api.ErrImage)
	g.lay(70, leaf("a"))
	g.lay(71, inner([]int{70, 70}, "a", "b"))
	g.refusesAll(71, api.ErrImage)
	if got, e := g.x.Scan(71, "", "", 1); e != api.OK || !slices.Equal(got, own("a")) {
		t.Errorf("Scan(71) = %v, %v", got, e)
	}
}

// P15.6: what rots is told by whoever comes to it, and by nobody else.
func TestRot(t *testing.T) {
	g := newGround(t, 120, 1)
	root, entries := g.grown(80)
	g.c.Flush()
	g.d.Flush()
	rotten := 0
	for _, n := range g.blocks(root) {
		b, _ := g.c.Get(n)
		if n0, e := node.Get(b); e == api.OK && n0.Leaf && slices.Contains(n0.Keys, long(40)) {
			rotten = n
		}
	}
	b, _ := g.c.Get(rotten)
	lost, _ := node.Get(b)
	g.c.Forget(rotten)
	g.d.Rot(rotten*2048 + 99)
	g.refusesAll(root, api.ErrSum)
	was := g.state()
	for _, entry := range entries {
		val, found, e := g.x.Get(root, entry.Key)
		if slices.Contains(lost.Keys, entry.Key) {
			if val != "" || found || e != api.ErrSum {
				t.Errorf("Get(%q) = %q, %v, %v", entry.Key, val, found, e)
			}
			if other, e := g.x.Put(root, entry.Key, "v"); other != 0 || e != api.ErrSum {
				t.Errorf("Put(%q) = %d, %v", entry.Key, other, e)
			}
			if other, found, e := g.x.Delete(root, entry.Key); other != 0 || found || e != api.ErrSum {
				t.Errorf("Delete(%q) = %d, %v, %v", entry.Key, other, found, e)
			}
		} else if val != entry.Val || !found || e != api.OK {
			t.Errorf("Get(%q) = %q, %v, %v", entry.Key, val, found, e)
		}
	}
	if got := g.state(); got != was {
		t.Errorf("refused calls made %s out of %s", got, was)
	}
	first, last := lost.Keys[0], lost.Keys[len(lost.Keys)-1]
	ahead := slices.DeleteFunc(slices.Clone(entries), func(e api.Entry) bool { return e.Key >= first })
	if got, e := g.x.Scan(root, "", first, 999); e != api.OK || !slices.Equal(got, ahead) {
		t.Errorf("Scan up to %q = %v, %v", first, got, e)
	}
	if got, e := g.x.Scan(root, "", "", len(ahead)); e != api.OK || !slices.Equal(got, ahead) {
		t.Errorf("Scan of %d = %v, %v", len(ahead), got, e)
	}
	behind := slices.DeleteFunc(slices.Clone(entries), func(e api.Entry) bool { return e.Key <= last })
	if got, e := g.x.Scan(root, behind[0].Key, "", 999); e != api.OK || !slices.Equal(got, behind) {
		t.Errorf("Scan from %q = %v, %v", behind[0].Key, got, e)
	}
}

// A Delete that finds the node beside its own rotten, on its way up, is refused, and has taken nothing.
func TestDeleteBesideRot(t *testing.T) {
	g := newGround(t, 60, 9)
	g.lay(50, inner([]int{51, 54}, "", "m"))
	g.lay(51, inner([]int{52, 53}, "", "c"))
	g.lay(52, leaf("a", "b"))
	g.lay(53, leaf("c"))
	was := g.state()
	if other, found, e := g.x.Delete(50, "c"); other != 0 || found || e != api.ErrSum {
		t.Errorf("Delete() = %d, %v, %v", other, found, e)
	}
	if got := g.state(); got != was {
		t.Errorf("a refused call made %s out of %s", got, was)
	}
}

// P15.9: keys beside kids may be less than all that stands there, the first one, too, and a key may come that is less.
func TestKeysBesideKidsThatAreLoose(t *testing.T) {
	for _, key := range []string{"\x00", "a", "c", "d", "e", "ee", "g", "m", "n", "o", "p", "pp", "t", "u", "v", "z"} {
		g := newGround(t, 60, 9)
		g.lay(50, inner([]int{51, 52}, "d", "m"))
		g.lay(51, inner([]int{53, 54}, "e", "g"))
		g.lay(52, inner([]int{55, 56}, "p", "t"))
		g.lay(53, leaf("ee"))
		g.lay(54, leaf("h"))
		g.lay(55, leaf("pp"))
		g.lay(56, leaf("u"))
		all := own("ee", "h", "pp", "u")
		g.sound(50)
		g.has(50, all...)
		g.hasNot(50, "a", "d", "f", "n", "o", "zz")
		s := g.put(50, key, key)
		if !slices.Contains(all, pair(key, key)) {
			all = append(all, pair(key, key))
			slices.SortFunc(all, func(a, b api.Entry) int { return strings.Compare(a.Key, b.Key) })
		}
		g.sound(s)
		g.has(s, all...)
		for len(all) > 0 {
			s = g.delete(s, all[0].Key)
			all = all[1:]
			g.sound(s)
			g.has(s, all...)
		}
	}
}

// P15.9: a full node that gets a long key in place of a short one, and another kid, is split into two that may be.
func TestLooseKeysOfFullNodes(t *testing.T) {
	g := newGround(t, 120, 9)
	full := node.Node{Leaf: true}
	for i := range 4 {
		full.Keys, full.Vals = append(full.Keys, "m"+long(i)[:23]), append(full.Vals, long(i))
	}
	g.lay(60, full)
	names, kids := []string{"m"}, []int{60}
	for i := range 8 {
		names, kids = append(names, "n"+long(i)[:23]), append(kids, 61+i)
		g.lay(61+i, leaf("n"+long(i)[:23]))
	}
	names, kids = append(names, "o"+long(0)[:15]), append(kids, 69)
	g.lay(69, leaf("o"+long(0)[:15]))
	if size := node.Size(inner(kids, names...)); size != 240 {
		t.Fatalf("the node has the Size %d", size)
	}
	g.lay(51, inner(kids, names...))
	g.lay(50, inner([]int{51}, ""))
	_, _, entries := g.sound(50)
	key := "l" + long(0)[:23]
	s := g.put(50, key, strings.Repeat("v", 24))
	g.sound(s)
	g.has(s, append([]api.Entry{pair(key, strings.Repeat("v", 24))}, entries...)...)
}

// any tree that is sound, made by hand: nodes with few keys or many, and keys beside kids that are less than need be.
type maker struct {
	*ground
	chance *rand.Rand
	keys   []string // those that are still to come, rising
	next   int
}

func (m *maker) node(level int, low string) (int, bool) {
	many := 1 + m.chance.Intn(8)
	n := node.Node{Leaf: level == 1}
	for range many {
		if len(m.keys) == 0 {
			break
		}
		key := m.keys[0]
		if n.Leaf {
			n.Keys, n.Vals = append(n.Keys, key), append(n.Vals, key[:2])
			m.keys = m.keys[1:]
			continue
		}
		beside := key
		if len(n.Keys) == 0 && m.chance.Intn(2) == 0 {
			beside = low
		}
		kid, ok := m.node(level-1, beside)
		if !ok {
			break
		}
		n.Keys, n.Kids = append(n.Keys, beside), append(n.Kids, kid)
	}
	if len(n.Keys) == 0 {
		return 0, false
	}
	m.next++
	m.lay(50+m.next, n)
	return 50 + m.next, true
}

// P15.4, P15.7, P15.8, P15.9
func TestTreesMadeByHand(t *testing.T) {
	for seed := range int64(120) {
		chance := rand.New(rand.NewSource(seed))
		s := newStory(t, seed, 900, func(chance *rand.Rand) string {
			return fmt.Sprintf("%02d%s", chance.Intn(100), strings.Repeat("k", 22))
		})
		m := &maker{ground: s.ground, chance: chance}
		for i := range 100 {
			if chance.Intn(3) > 0 {
				m.keys = append(m.keys, fmt.Sprintf("%02d%s", i, strings.Repeat("k", 22)))
			}
		}
		root, _ := m.node(1+chance.Intn(16), "")
		_, _, entries := s.sound(root)
		s.now.root = root
		for _, entry := range entries {
			s.now.model[entry.Key] = entry.Val
		}
		s.kept = nil
		s.begin()
		for i := range 40 {
			s.change()
			if s.chance.Intn(9) == 0 {
				s.begin()
			}
			s.holds()
			if t.Failed() {
				t.Fatalf("seed %d, step %d", seed, i)
			}
		}
	}
}

// R1, T5: of trees that are not sound all calls end, and those that are refused leave all as it is.
func TestTreesThatAreNotSound(t *testing.T) {
	letter := func(chance *rand.Rand) string {
		return strings.Repeat(string(rune('a'+chance.Intn(20))), 1+chance.Intn(24))
	}
	told := map[api.Errno]int{}
	for seed := range int64(700) {
		chance := rand.New(rand.NewSource(seed))
		g := newGround(t, 70, 5)
		for number := 50; number < 80; number++ {
			n := node.Node{Leaf: chance.Intn(5) == 0}
			for range 1 + chance.Intn(8) {
				n.Keys = append(n.Keys, letter(chance))
			}
			slices.Sort(n.Keys)
			n.Keys = slices.Compact(n.Keys)
			for node.Size(n) > 180 {
				n.Keys = n.Keys[1:]
			}
			for range n.Keys {
				if n.Leaf {
					n.Vals = append(n.Vals, "v")
				} else {
					n.Kids = append(n.Kids, 50+chance.Intn(31))
				}
			}
			g.lay(number, n)
		}
		for range 30 {
			root, key, was := 50+chance.Intn(30), letter(chance), g.state()
			other, e := g.x.Put(root, key, "w")
			told[e]++
			if e != api.OK && (other != 0 || g.state() != was) {
				t.Fatalf("Put is %d, %v, and made %s out of %s", other, e, g.state(), was)
			}
			was = g.state()
			other, found, e := g.x.Delete(root, key)
			told[e]++
			if e != api.OK && (other != 0 || found || g.state() != was) {
				t.Fatalf("Delete is %d, %v, %v, and made %s out of %s", other, found, e, g.state(), was)
			}
			g.x.Get(root, key)
			g.x.Scan(root, key, letter(chance), chance.Intn(9))
			g.x.Levels(root)
			g.x.Blocks(root)
			g.x.Begin()
		}
	}
	for e := range told {
		if e != api.OK && e != api.ErrImage && e != api.ErrSpace && e != api.ErrSum {
			t.Errorf("%v was told", e)
		}
	}
}

// Where the keys below a kid go beyond the one that stands next, a split would make keys that do not rise: it is the image that is amiss then, not what was handed in.
func TestPutThatMakesNoNode(t *testing.T) {
	g := newGround(t, 30, 9)
	full := node.Node{Leaf: true}
	for i := range 4 {
		full.Keys, full.Vals = append(full.Keys, "c"+long(i)[:23]), append(full.Vals, long(i))
	}
	g.lay(50, inner([]int{51, 52}, "", "b"))
	g.lay(51, full)
	g.lay(52, leaf("b"))
	was := g.state()
	if other, e := g.x.Put(50, "a"+long(0)[:23], long(0)); other != 0 || e != api.ErrImage || g.state() != was {
		t.Errorf("Put() = %d, %v; %s was %s", other, e, g.state(), was)
	}
}

// R2: a map whose numbers the cache has no blocks of.
func TestNumbersThatTheCacheHasNot(t *testing.T) {
	for _, of := range [][2]int{{0, 60}, {49, 60}, {80, 90}} {
		g := newGround(t, 30, 9)
		m, e := alloc.New(of[0], of[1])
		if e != api.OK {
			t.Fatal(e)
		}
		x, _ := tree.New(g.c, m)
		g.m, g.x = m, x
		was := g.state()
		if root, e := x.Put(0, "a", "1"); root != 0 || e != api.ErrRange || g.state() != was {
			t.Errorf("Put() = %d, %v; %s was %s", root, e, g.state(), was)
		}
	}
}

// levelsFull is a tree of 16 levels whose nodes on the way to a key are all full, so that it would have to be raised.
func (g *ground) levelsFull() {
	next := 50 + 16
	thin := func(levels int, key string) int {
		first := next
		for range levels - 1 {
			g.lay(next, inner([]int{next + 1}, key))
			next++
		}
		g.lay(next, leaf(key))
		next++
		return first
	}
	for i := range 15 {
		n := inner([]int{50 + i + 1}, "")
		for k := range 9 {
			key := strings.Repeat(string(rune('z'-i)), 20) + fmt.Sprintf("%04d", k)
			if more := inner(nil, append(slices.Clone(n.Keys), key)...); node.Size(more)+2*len(more.Keys) <= 240 {
				n.Keys, n.Kids = append(n.Keys, key), append(n.Kids, thin(15-i, key))
			}
		}
		g.lay(50+i, n)
	}
	full := node.Node{Leaf: true}
	for i := range 4 {
		full.Keys, full.Vals = append(full.Keys, "a"+long(i)[:23]), append(full.Vals, long(i))
	}
	g.lay(65, full)
}

// P15.6, P15.9: a tree that would go deeper than 16 levels is not made.
func TestNoTreeIsMadeTooDeep(t *testing.T) {
	g := newGround(t, 1200, 9)
	g.levelsFull()
	levels, _, entries := g.sound(50)
	if levels != 16 {
		t.Fatalf("%d levels", levels)
	}
	was := g.state()
	if other, e := g.x.Put(50, "a"+long(9)[:23], long(9)); other != 0 || e != api.ErrImage || g.state() != was {
		t.Errorf("Put() = %d, %v; %s was %s", other, e, g.state(), was)
	}
	g.has(50, entries...)
	s := g.delete(50, "a"+long(2)[:23])
	s = g.put(s, "a"+long(9)[:23], long(9))
	g.sound(s)
}
