package fsck_test

import (
	"maps"
	"slices"
	"testing"
	"time"

	"kist/api"
	"kist/disk"
	"kist/engine"
	"kist/fsck"
	"kist/node"
)

// six is a tale of three files without bytes: six keys.
func six() tale { return tale{}.file(1, "a", 0).file(2, "b", 0).file(3, "c", 0) }

// sixth is one of its keys, from 0 on.
func sixth(n int) string { return slices.Sorted(maps.Keys(six()))[n] }

// leaf lays a leaf that has the keys of six from one up to another.
func (im *image) leaf(from, to int) int {
	im.t.Helper()
	n := node.Node{Leaf: true}
	for at := from; at < to; at++ {
		n.Keys, n.Vals = append(n.Keys, sixth(at)), append(n.Vals, six()[sixth(at)])
	}
	return im.lay(n)
}

func (im *image) inner(kids []int, keys ...string) int {
	im.t.Helper()
	return im.lay(node.Node{Keys: keys, Kids: kids})
}

// isSound wants a tree of six to be sound, or not.
func isSound(t *testing.T, about any, is bool, root func(im *image) int) {
	t.Helper()
	im := newImage(t, 200)
	im.s.Versions[0].Root = root(im)
	d := im.disk()
	if isTold(t, d, about) != is {
		t.Errorf("%q: it is well formed: %v", about, !is)
		return
	}
	if !is {
		return
	}
	checked(t, d, fsck.Report{Versions: 1, Files: 3, Blocks: im.next - api.FirstBlock})
	if told, _ := mounted(t, d).told(); told != im.tale(six()) {
		t.Errorf("%q: told are %s", about, told)
	}
}

// P21.1, 2: all keys of a kid are at least the key that stands beside it, of the first kid, too.
func TestKeysBesideKids(t *testing.T) {
	for key, is := range map[string]bool{"": true, "a": true, "d": true, sixth(0): true, sixth(0) + "\x00": false, sixth(1): false, "e": false, "z": false} {
		isSound(t, key, is, func(im *image) int { return im.inner([]int{im.leaf(0, 6)}, key) })
		isSound(t, key, is, func(im *image) int { return im.inner([]int{im.inner([]int{im.leaf(0, 6)}, key)}, "") })
		isSound(t, key, is, func(im *image) int { return im.inner([]int{im.inner([]int{im.leaf(0, 6)}, key)}, key) })
		// A key of an inner node is one, too.
		isSound(t, key, key == "", func(im *image) int { return im.inner([]int{im.inner([]int{im.leaf(0, 6)}, "")}, key) })
		if key < sixth(3) {
			isSound(t, key, is, func(im *image) int { return im.inner([]int{im.leaf(0, 3), im.leaf(3, 6)}, key, sixth(3)) })
		}
	}
	for key, is := range map[string]bool{sixth(2): false, sixth(2) + "\x00": true, "e": true, "h": true, sixth(3): true, sixth(3) + "\x00": false, sixth(4): false} {
		isSound(t, key, is, func(im *image) int { return im.inner([]int{im.leaf(0, 3), im.leaf(3, 6)}, "", key) })
	}
}

// P21.1, 2: and below the key that stands next; of the last kid below the one next to its node, if there is one.
func TestKeysAheadOfTheNext(t *testing.T) {
	for key, is := range map[string]bool{sixth(1): false, sixth(2): false, sixth(2) + "\x00": true, sixth(3): true} {
		for low := range 3 {
			isSound(t, key, is, func(im *image) int {
				last := im.inner([]int{im.leaf(0, 1), im.leaf(1, 3)}, "", sixth(1))
				next := im.inner([]int{im.leaf(3, 6)}, sixth(3))
				for range low { // so many levels further up
					last, next = im.inner([]int{last}, ""), im.inner([]int{next}, sixth(3))
				}
				return im.inner([]int{last, next}, "", key)
			})
		}
	}
	// A key beside the last kid that is not below the one next to its node: no key of the kid can be right.
	isSound(t, "beside", false, func(im *image) int {
		return im.inner([]int{im.inner([]int{im.leaf(0, 3), im.leaf(5, 6)}, "", sixth(5)), im.inner([]int{im.leaf(3, 5)}, sixth(3))}, "", sixth(3))
	})
	isSound(t, "nothing next", true, func(im *image) int {
		return im.inner([]int{im.inner([]int{im.leaf(0, 1)}, ""), im.inner([]int{im.leaf(1, 2), im.leaf(2, 6)}, sixth(1), sixth(2))}, "", sixth(1))
	})
	// Kids that go over one another, and such that have changed places.
	isSound(t, "twice", false, func(im *image) int { return im.inner([]int{im.leaf(0, 4), im.leaf(3, 6)}, "", sixth(3)) })
	isSound(t, "turned", false, func(im *image) int { return im.inner([]int{im.leaf(3, 6), im.leaf(0, 3)}, "", sixth(3)) })
	isSound(t, "turned", false, func(im *image) int { return im.inner([]int{im.leaf(3, 6), im.leaf(0, 3)}, "", "a") })
}

// P21.1, 2: at most 16 levels.
func TestLevels(t *testing.T) {
	for levels := 1; levels <= 20; levels++ {
		isSound(t, levels, levels <= 16, func(im *image) int {
			root := im.leaf(0, 6)
			for range levels - 1 {
				root = im.inner([]int{root}, "")
			}
			return root
		})
		isSound(t, levels, levels < 16, func(im *image) int {
			a, b := im.leaf(0, 3), im.leaf(3, 6)
			for range levels - 1 {
				a, b = im.inner([]int{a}, ""), im.inner([]int{b}, "e")
			}
			return im.inner([]int{a, b}, "", "e")
		})
	}
}

// P21.1, 2: all leaves stand on one level.
func TestLeavesOnOtherLevels(t *testing.T) {
	for at := range 3 {
		for _, more := range []int{0, 1, 2} {
			isSound(t, at, more == 0, func(im *image) int {
				kids := []int{im.leaf(0, 2), im.leaf(2, 4), im.leaf(4, 6)}
				keys := []string{"", sixth(2), sixth(4)}
				for range more {
					kids[at] = im.inner([]int{kids[at]}, keys[at])
				}
				return im.inner(kids, keys...)
			})
		}
	}
}

// P21.1, 2: kids that are no nodes, or no blocks.
func TestKidsThatAreNone(t *testing.T) {
	isSound(t, "as it is", true, func(im *image) int { return im.inner([]int{im.leaf(0, 3), im.leaf(3, 6)}, "", "e") })
	for _, kid := range []int{0, 1, 49, 52, 199, 200, 65535} { // 52 is the node itself
		isSound(t, kid, false, func(im *image) int { im.leaf(0, 3); return im.inner([]int{kid, im.leaf(3, 6)}, "", "e") })
		isSound(t, kid, false, func(im *image) int { im.leaf(0, 3); return im.inner([]int{im.leaf(0, 6), kid}, "", "z") })
	}
	for _, b := range []api.Block{
		{Kind: api.KindLeaf},
		{Kind: api.KindLeaf, Body: []byte{0}},
		{Kind: api.KindInner, Body: []byte{0}},
		{Kind: api.KindMore, Body: []byte{1, 1, 'z', 0}},
		{Kind: api.KindChunk, Body: []byte{1, 1, 'z', 0}},
		{Kind: api.KindLeaf, Body: []byte{1, 0, 0}},
		{Kind: api.KindLeaf, Body: []byte{1, 1, 'z', 0, 0}},
		{Kind: api.KindLeaf, Body: []byte{2, 1, 'z', 0, 1, 'y', 0}},
	} {
		isSound(t, b, false, func(im *image) int { return im.layBlock(b) })
		isSound(t, b, false, func(im *image) int { return im.inner([]int{im.leaf(0, 6), im.layBlock(b)}, "", "z") })
	}
}

// P21.4: trees that lead round, or to one node in as many ways as there are: each call ends at once.
func TestTreesThatLeadRound(t *testing.T) {
	begun := time.Now()
	for _, key := range []string{"", "d"} {
		isSound(t, "itself", false, func(im *image) int { return im.inner([]int{im.next}, key) })
		isSound(t, "itself", false, func(im *image) int { return im.inner([]int{im.next, im.next}, key, "e") })
		isSound(t, "two", false, func(im *image) int { im.inner([]int{im.next + 1}, key); return im.inner([]int{im.next - 1}, key) })
		isSound(t, "behind", false, func(im *image) int { return im.inner([]int{im.leaf(0, 6), im.next - 1}, key, "z") })
	}
	for _, above := range []int{2, 10, 15, 60} {
		isSound(t, above, false, func(im *image) int {
			root := im.leaf(0, 6)
			for range above {
				root = im.inner([]int{root, root}, "", "e")
			}
			return root
		})
		isSound(t, above, false, func(im *image) int {
			root := im.inner([]int{im.next}, "e")
			for range above {
				root = im.inner([]int{root, root}, "", "e")
			}
			return root
		})
	}
	if took := time.Since(begun); took > time.Minute {
		t.Errorf("it took %v", took)
	}
}

// P21.1: each version's tree; a node of several versions is sound in each of them.
func TestTreesOfVersions(t *testing.T) {
	for _, bad := range []int{-1, 0, 1, 2} {
		im := newImage(t, 200)
		a, b := im.leaf(0, 3), im.leaf(3, 6)
		root := im.inner([]int{a, b}, "", "e")
		im.s.Versions = nil
		for n := range 3 {
			im.s.Versions = append(im.s.Versions, api.Version{ID: n + 1, Root: im.inner([]int{root}, ""), Next: 4})
		}
		if bad >= 0 {
			im.s.Versions[bad].Root = im.inner([]int{root}, "e")
			isRefused(t, im.disk(), bad)
			continue
		}
		checked(t, im.disk(), fsck.Report{Versions: 3, Files: 9, Blocks: 6})
		im.s.Versions[1].Root = b // without names
		isRefused(t, im.disk(), bad)
		im.s.Versions[1].Root = 0
		checked(t, im.disk(), fsck.Report{Versions: 3, Files: 6, Blocks: 5})
	}
}

// P21.4: a full disk of eight versions that have all, and as many keys of chunks as there may be: Check and Mount end.
func TestFullDisk(t *testing.T) {
	im := newImage(t, 4096)
	im.s.Versions[0].Next = 1 << 24
	a := tale{}
	one := at(im.chunk("a"))
	for n := 1; n <= 12000; n++ {
		a = a.addFile(n, one)
	}
	root := im.root(a)
	im.s.Versions = nil
	for n := range 8 {
		im.s.Versions = append(im.s.Versions, api.Version{ID: n + 1, Root: root, Next: 1 << 24})
	}
	im.s.Next = 9
	d := im.disk()
	begun := time.Now()
	r, e := fsck.Check(d)
	if e != api.OK || r.Versions != 8 || r.Files != 8*12000 {
		t.Errorf("Check() = %v, %v", r, e)
	}
	if _, e := engine.Mount(d.Copy()); e != api.OK {
		t.Error(e)
	}
	if took := time.Since(begun); took > time.Minute {
		t.Errorf("it took %v", took)
	}
}

// addFile adds a file of one byte.
func (a tale) addFile(n int, chunk string) tale {
	a[nameAt(0, string([]byte{byte('a' + n/1000), byte('a' + n/100%10), byte('a' + n/10%10), byte('a' + n%10)}))] = number(n)
	a[inodeAt(n)] = isFile(1)
	a[placeAt(n, 0)] = chunk
	return a
}

// P21.4: disks of any bytes.
func TestDisksOfNoise(t *testing.T) {
	for seed := range int64(40) {
		d, _ := disk.New(128 + int(seed))
		for at := range d.Size() {
			d.Write(at, []byte(noise(1000*seed+int64(at), 256)))
		}
		isRefused(t, d, seed)
		if seed%2 == 0 {
			engine.Format(d)
			checked(t, d, fsck.Report{Versions: 1}) // what is in blocks counts for nothing
		}
	}
}
