package node_test

import (
	"bytes"
	"math"
	"slices"
	"strings"
	"testing"

	"kist/api"
	"kist/node"
)

// leaf is a leaf of keys and values by turns.
func leaf(texts ...string) node.Node {
	n := node.Node{Leaf: true}
	for i := 0; i < len(texts); i += 2 {
		n.Keys = append(n.Keys, texts[i])
		n.Vals = append(n.Vals, texts[i+1])
	}
	return n
}

// inner is an inner node of these keys, with the kids 50, 51 and so on.
func inner(keys ...string) node.Node {
	n := node.Node{Keys: keys}
	for i := range keys {
		n.Kids = append(n.Kids, 50+i)
	}
	return n
}

func text(many int) string { return strings.Repeat("x", many) }

func same(a, b node.Node) bool {
	return a.Leaf == b.Leaf && slices.Equal(a.Keys, b.Keys) && slices.Equal(a.Vals, b.Vals) && slices.Equal(a.Kids, b.Kids)
}

func isNone(n node.Node) bool { return !n.Leaf && n.Keys == nil && n.Vals == nil && n.Kids == nil }

func has(t *testing.T, n node.Node, want int) {
	t.Helper()
	if got := node.Size(n); got != want {
		t.Errorf("Size(%#v) = %d, want %d", n, got, want)
	}
}

// mayBe wants a node to be put, into these bytes if there are some, and to come out of them.
func mayBe(t *testing.T, n node.Node, body ...byte) {
	t.Helper()
	b, e := node.Put(n)
	if !node.May(n) || e != api.OK {
		t.Errorf("May(%#v) = %v, Put = %v", n, node.May(n), e)
		return
	}
	kind := api.KindInner
	if n.Leaf {
		kind = api.KindLeaf
	}
	if b.Kind != kind || len(body) > 0 && !bytes.Equal(b.Body, body) || len(b.Body) != node.Size(n) {
		t.Errorf("Put(%#v) = %v, want kind %d and %v", n, b, kind, body)
	}
	if got, e := node.Get(b); e != api.OK || !same(got, n) {
		t.Errorf("Get(Put(%#v)) = %#v, %v", n, got, e)
	}
}

func mayNot(t *testing.T, what string, n node.Node) {
	t.Helper()
	if b, e := node.Put(n); node.May(n) || e != api.ErrArg || b.Kind != 0 || b.Body != nil {
		t.Errorf("%s: May(%#v) = %v, Put = %v, %v", what, n, node.May(n), b, e)
	}
}

func isNoNode(t *testing.T, what string, kind int, body ...byte) {
	t.Helper()
	if n, e := node.Get(api.Block{Kind: kind, Body: body}); e != api.ErrImage || !isNone(n) {
		t.Errorf("%s: Get(%d, %v) = %#v, %v", what, kind, body, n, e)
	}
}

func places(t *testing.T, n node.Node, want map[string]int) {
	t.Helper()
	for key, place := range want {
		if got := node.Place(n, key); got != place {
			t.Errorf("Place(%#v, %#v) = %d, want %d", n, key, got, place)
		}
	}
}

// splits wants the first of the two nodes to have the first keys, so many, and both to be the node when they are joined.
func splits(t *testing.T, n node.Node, many int) {
	t.Helper()
	first, other := node.Split(n)
	if !same(first, part(n, 0, many)) || !same(other, part(n, many, len(n.Keys))) {
		t.Errorf("Split(%#v) = %#v, %#v, want %d keys in the first", n, first, other, many)
	}
	if got := node.Join(first, other); !same(got, n) {
		t.Errorf("Join(Split(%#v)) = %#v", n, got)
	}
}

// part is a node of some of a whole node's keys.
func part(n node.Node, from, to int) node.Node {
	p := node.Node{Leaf: n.Leaf, Keys: n.Keys[from:to]}
	if n.Leaf {
		p.Vals = n.Vals[from:to]
	} else {
		p.Kids = n.Kids[from:to]
	}
	return p
}

func TestExamples(t *testing.T) {
	mayBe(t, leaf("a", "1", "b", ""), 2, 1, 'a', 1, 49, 1, 'b', 0)
	mayBe(t, inner("", "c"), 2, 0, 50, 0, 1, 'c', 51, 0)
	places(t, inner("", "c"), map[string]int{"a": 0, "c": 1, "d": 1})
	mayNot(t, "falling keys", leaf("b", "", "a", ""))
	mayNot(t, "no keys", node.Node{Leaf: true})
	isNoNode(t, "an empty key", api.KindLeaf, 1, 0, 0)
}

// P14.1: Size

func TestSize(t *testing.T) {
	has(t, leaf("a", "1", "b", ""), 8)
	has(t, inner("", "c"), 8)
	has(t, leaf("abc", "defgh"), 11)
	has(t, inner("abc"), 7)
	has(t, node.Node{}, 1)
	has(t, node.Node{Leaf: true}, 1)
}

func TestSizeOfWhatMayNotBe(t *testing.T) {
	has(t, leaf("", ""), 3)
	has(t, leaf(text(300), text(400)), 703)
	has(t, node.Node{Leaf: true, Keys: []string{"b", "a", "a"}, Vals: []string{"xyz"}}, 1+6+3+3)
	has(t, node.Node{Leaf: true, Keys: []string{"b", "a"}}, 1+3+3)
	has(t, node.Node{Keys: []string{"b", "a", "a"}, Kids: []int{-1}}, 1+4+2+2)
	has(t, node.Node{Keys: []string{"b", ""}}, 1+2+1)
	has(t, node.Node{Keys: make([]string, 1000), Kids: make([]int, 1000)}, 3001)
	// What stands beside no key, or in the other kind's list, does not count.
	has(t, node.Node{Leaf: true, Keys: []string{"a"}, Vals: []string{"1", "23"}, Kids: []int{1, 2}}, 5)
	has(t, node.Node{Keys: []string{"a"}, Vals: []string{"1", "23"}, Kids: []int{1, 2}}, 5)
	has(t, node.Node{Leaf: true, Vals: []string{"1"}}, 1)
	has(t, node.Node{Kids: []int{1}}, 1)
}

// P14.1: May, Put

func TestBytes(t *testing.T) {
	mayBe(t, leaf("k", "v"), 1, 1, 'k', 1, 'v')
	mayBe(t, leaf("k", ""), 1, 1, 'k', 0)
	mayBe(t, leaf("\x00", "\xff"), 1, 1, 0, 1, 255)
	mayBe(t, leaf("a", "xyz", "ab", "", "b", "1"), 3, 1, 'a', 3, 'x', 'y', 'z', 2, 'a', 'b', 0, 1, 'b', 1, '1')
	mayBe(t, node.Node{Keys: []string{""}, Kids: []int{0}}, 1, 0, 0, 0)
	mayBe(t, node.Node{Keys: []string{"a"}, Kids: []int{65535}}, 1, 1, 'a', 255, 255)
	mayBe(t, node.Node{Keys: []string{"a", "bc"}, Kids: []int{258, 0x4321}}, 2, 1, 'a', 2, 1, 2, 'b', 'c', 0x21, 0x43)
	mayBe(t, node.Node{Keys: []string{"", "a"}, Kids: []int{7, 7}}, 2, 0, 7, 0, 1, 'a', 7, 0) // no one asks for different kids
}

func TestKeysMustRise(t *testing.T) {
	for _, keys := range [][2]string{{"a", "b"}, {"a", "aa"}, {"a\x00", "a\x01"}, {"a", "a\x00"}, {"Z", "a"}, {"z", "\x80"}, {"\x7f", "\xff"}, {"é", "\xff"}, {"a" + text(23), "b"}} {
		mayBe(t, leaf(keys[0], "", keys[1], ""))
		mayBe(t, inner(keys[0], keys[1]))
		mayBe(t, inner("", keys[0], keys[1]))
		mayNot(t, "falling keys", leaf(keys[1], "", keys[0], ""))
		mayNot(t, "falling keys", inner(keys[1], keys[0]))
		mayNot(t, "a key twice", leaf(keys[0], "1", keys[0], "2"))
		mayNot(t, "a key twice", inner(keys[0], keys[0]))
		mayNot(t, "the last ones fall", leaf("!", "", keys[1], "", keys[0], ""))
		mayNot(t, "the last one again", inner("!", keys[0], keys[1], keys[1]))
	}
	mayNot(t, "empty keys twice", inner("", ""))
	mayNot(t, "an empty key behind", inner("a", ""))
}

func TestHowLongKeysMayBe(t *testing.T) {
	for many := range 25 {
		mayBe(t, inner(text(many)))
		mayBe(t, inner("", "a"+text(min(many, 23))))
		if many > 0 {
			mayBe(t, leaf(text(many), "v"))
		}
	}
	for _, many := range []int{25, 26, 100, 200, 255, 256, 257, 280, 1000} {
		mayNot(t, "a long key", inner(text(many)))
		mayNot(t, "a long key", leaf(text(many), ""))
		mayNot(t, "a long key behind", leaf("a", "", text(many), ""))
		mayNot(t, "a long key behind", inner("", text(many)))
	}
	mayNot(t, "an empty key of a leaf", leaf("", "v"))
	mayNot(t, "an empty key of a leaf", leaf("", "v", "a", "w"))
}

func TestHowLongValuesMayBe(t *testing.T) {
	for many := range 25 {
		mayBe(t, leaf("a", text(many)))
		mayBe(t, leaf("a", "", "b", text(many)))
	}
	for _, many := range []int{25, 26, 100, 200, 255, 256, 257, 280, 1000} {
		mayNot(t, "a long value", leaf("a", text(many)))
		mayNot(t, "a long value behind", leaf("a", "", "b", text(many)))
		mayNot(t, "a long value ahead", leaf("a", text(many), "b", ""))
	}
}

func TestWhichKidsMayBe(t *testing.T) {
	for _, kid := range []int{0, 1, 49, 50, 255, 256, 4095, 4096, 32768, 65534, 65535} {
		mayBe(t, node.Node{Keys: []string{"a"}, Kids: []int{kid}})
		mayBe(t, node.Node{Keys: []string{"a", "b"}, Kids: []int{50, kid}})
	}
	for _, kid := range []int{math.MinInt, -65536, -65535, -1, 65536, 65537, 65586, 1 << 32, 1<<32 + 50, math.MaxInt} {
		mayNot(t, "a kid", node.Node{Keys: []string{"a"}, Kids: []int{kid}})
		mayNot(t, "the last kid", node.Node{Keys: []string{"a", "b"}, Kids: []int{50, kid}})
		mayNot(t, "the first kid", node.Node{Keys: []string{"a", "b"}, Kids: []int{kid, 50}})
	}
}

func TestListsOfOtherLengths(t *testing.T) {
	keys := []string{"a", "b"}
	for many := range 5 {
		vals, kids := make([]string, many), make([]int, many)
		if many == 2 {
			mayBe(t, node.Node{Leaf: true, Keys: keys, Vals: vals})
			mayBe(t, node.Node{Keys: keys, Kids: kids})
		} else {
			mayNot(t, "values", node.Node{Leaf: true, Keys: keys, Vals: vals})
			mayNot(t, "kids", node.Node{Keys: keys, Kids: kids})
		}
		if many > 0 {
			mayNot(t, "kids of a leaf", node.Node{Leaf: true, Keys: keys, Vals: []string{"", ""}, Kids: kids})
			mayNot(t, "values of an inner node", node.Node{Keys: keys, Kids: []int{50, 51}, Vals: vals})
			mayNot(t, "values without keys", node.Node{Leaf: true, Vals: vals})
			mayNot(t, "kids without keys", node.Node{Kids: kids})
		}
	}
	mayNot(t, "an inner node's lists of a leaf", node.Node{Leaf: true, Keys: keys, Kids: []int{50, 51}})
	mayNot(t, "a leaf's lists of an inner node", node.Node{Keys: keys, Vals: []string{"", ""}})
	mayNot(t, "nothing", node.Node{})
	mayNot(t, "an empty leaf", node.Node{Leaf: true, Keys: []string{}, Vals: []string{}, Kids: []int{}})
}

// sized is a node whose keys have 24 bytes and whose Size is that.
func sized(t *testing.T, isLeaf bool, size int) node.Node {
	t.Helper()
	n := node.Node{Leaf: isLeaf}
	for i := 0; node.Size(n) < size; i++ {
		key := string(rune('a'+i)) + text(23)
		if isLeaf {
			n.Keys, n.Vals = append(n.Keys, key), append(n.Vals, text(24))
		} else {
			n.Keys, n.Kids = append(n.Keys, key), append(n.Kids, 50+i)
		}
	}
	for i := 0; node.Size(n) > size; i++ { // some become shorter again
		if isLeaf && n.Vals[i] != "" {
			n.Vals[i] = text(max(0, 24-node.Size(n)+size))
		}
		n.Keys[i] = n.Keys[i][:max(1, len(n.Keys[i])-node.Size(n)+size)]
	}
	has(t, n, size)
	return n
}

func TestHowGreatANodeMayBe(t *testing.T) {
	for _, isLeaf := range []bool{true, false} {
		for size := 220; size <= 240; size++ {
			mayBe(t, sized(t, isLeaf, size))
		}
		for size := 241; size <= 300; size++ {
			mayNot(t, "a great one", sized(t, isLeaf, size))
		}
	}
}

// many is a node of that many keys of one byte, and of three from the 250th on.
func many(isLeaf bool, keys int) node.Node {
	n := node.Node{Leaf: isLeaf}
	for i := range keys {
		key := string([]byte{byte(min(i, 250))})
		if i >= 250 {
			key += string([]byte{byte(i / 256), byte(i % 256)})
		}
		n.Keys = append(n.Keys, key)
		if isLeaf {
			n.Vals = append(n.Vals, "")
		} else {
			n.Kids = append(n.Kids, i)
		}
	}
	return n
}

func TestHowManyKeysThereMayBe(t *testing.T) {
	mayBe(t, many(true, 79)) // 238 bytes
	mayNot(t, "241 bytes", many(true, 80))
	mayBe(t, many(false, 59)) // 237 bytes
	mayNot(t, "241 bytes", many(false, 60))
	for _, keys := range []int{255, 256, 257, 258, 512, 513, 1000} { // their number wraps round in a byte
		mayNot(t, "many keys", many(true, keys))
		mayNot(t, "many keys", many(false, keys))
	}
}

// P14.1: Get

func TestGetOfOtherKinds(t *testing.T) {
	for _, n := range []node.Node{leaf("a", "1"), inner("a", "b"), inner("")} {
		b, _ := node.Put(n)
		for _, kind := range []int{math.MinInt, -1, 0, api.KindChunk, api.KindMore, 5, 257, 258, 1<<32 + 1, 1<<32 + 2, math.MaxInt} {
			isNoNode(t, "another kind", kind, b.Body...)
		}
	}
	isNoNode(t, "a leaf's bytes", api.KindInner, slowBytes(leaf("a", ""))...)
	isNoNode(t, "an inner node's bytes", api.KindLeaf, slowBytes(inner("a", "b"))...)
	// These bytes are of either kind: only the block's kind tells which node it is.
	mayBe(t, leaf("a", "1"), 1, 1, 'a', 1, 49)
	mayBe(t, node.Node{Keys: []string{"a"}, Kids: []int{1 + 49*256}}, 1, 1, 'a', 1, 49)
}

func TestGetOfTooFewOrTooMany(t *testing.T) {
	for _, n := range []node.Node{leaf("a", "1"), leaf("a", ""), leaf("ab", "12", "b", "", "c", text(24)), inner(""), inner("a"), inner("", "bc", "d"), sized(t, true, 240), sized(t, false, 240)} {
		b, _ := node.Put(n)
		for length := range len(b.Body) {
			isNoNode(t, "cut", b.Kind, b.Body[:length]...)
		}
		for _, more := range [][]byte{{0}, {1}, {255}, {0, 0}, {0, 0, 0}, {1, 'z', 0}, {1, 'z', 50, 0}, make([]byte, 240)} {
			isNoNode(t, "with more behind", b.Kind, slices.Concat(b.Body, more)...)
		}
		for count := range 256 {
			if count != len(n.Keys) {
				isNoNode(t, "another number of keys", b.Kind, slices.Concat([]byte{byte(count)}, b.Body[1:])...)
			}
		}
	}
	isNoNode(t, "nothing", api.KindLeaf)
	isNoNode(t, "nothing", api.KindInner)
	isNoNode(t, "no keys", api.KindLeaf, 0)
	isNoNode(t, "no keys", api.KindInner, 0)
	isNoNode(t, "no keys, and more", api.KindInner, 0, 0, 0)
	isNoNode(t, "bytes 0", api.KindLeaf, make([]byte, 240)...)
	isNoNode(t, "bytes 255", api.KindInner, bytes.Repeat([]byte{255}, 240)...)
}

func TestGetOfWhatMayNotBe(t *testing.T) {
	isNoNode(t, "an empty key", api.KindLeaf, 1, 0, 1, 'v')
	isNoNode(t, "an empty key behind", api.KindLeaf, 2, 1, 'a', 0, 0, 0)
	isNoNode(t, "falling keys", api.KindLeaf, 2, 1, 'b', 0, 1, 'a', 0)
	isNoNode(t, "a key twice", api.KindLeaf, 2, 1, 'a', 0, 1, 'a', 0)
	isNoNode(t, "falling keys", api.KindInner, 2, 1, 'b', 50, 0, 1, 'a', 51, 0)
	isNoNode(t, "a key twice", api.KindInner, 2, 1, 'a', 50, 0, 1, 'a', 51, 0)
	isNoNode(t, "empty keys twice", api.KindInner, 2, 0, 50, 0, 0, 51, 0)
	long := []byte(text(25))
	isNoNode(t, "a long key", api.KindLeaf, slices.Concat([]byte{1, 25}, long, []byte{0})...)
	isNoNode(t, "a long key", api.KindInner, slices.Concat([]byte{1, 25}, long, []byte{50, 0})...)
	isNoNode(t, "a long value", api.KindLeaf, slices.Concat([]byte{1, 1, 'a', 25}, long)...)
	for _, n := range []node.Node{many(true, 80), many(false, 60), many(true, 255), many(false, 255), sized(t, true, 241), sized(t, false, 241), sized(t, true, 400)} {
		kind := api.KindInner
		if n.Leaf {
			kind = api.KindLeaf
		}
		isNoNode(t, "a great one", kind, slowBytes(n)...)
	}
}

// P14.2

func TestPlaceInALeaf(t *testing.T) {
	places(t, leaf("b", "", "d", ""), map[string]int{"": 0, "a": 0, "b": 0, "b\x00": 1, "c": 1, "d": 1, "da": 2, "e": 2, "\xff": 2, text(1000): 2})
	places(t, leaf("\x00", "", "\x80", ""), map[string]int{"": 0, "\x00": 0, "\x00\x00": 1, "\x7f": 1, "\x80": 1, "\xff": 2})
	places(t, node.Node{Leaf: true}, map[string]int{"": 0, "a": 0})
	places(t, node.Node{Leaf: true, Keys: []string{"b", "d"}}, map[string]int{"a": 0, "c": 1, "e": 2}) // its Vals are not asked
}

func TestPlaceInAnInnerNode(t *testing.T) {
	places(t, inner("", "b", "d"), map[string]int{"": 0, "a": 0, "b": 1, "b\x00": 1, "c": 1, "d": 2, "e": 2, "\xff": 2})
	places(t, inner("b", "d"), map[string]int{"": 0, "a": 0, "b": 0, "c": 0, "d": 1, "e": 1})
	places(t, inner("\x7f", "\x80"), map[string]int{"a": 0, "\x7f\xff": 0, "\x80": 1, "\xff": 1})
	places(t, node.Node{}, map[string]int{"": 0, "a": 0})
}

// Of keys that do not rise it is the last one that counts.
func TestPlaceOfAnyKeys(t *testing.T) {
	mixed := []string{"c", "a", "e", "b", "d"}
	places(t, node.Node{Leaf: true, Keys: mixed}, map[string]int{"a": 0, "aa": 2, "b": 2, "bb": 4, "c": 4, "d": 4, "e": 5, "f": 5})
	places(t, node.Node{Keys: mixed}, map[string]int{"": 0, "a": 1, "b": 3, "c": 3, "d": 4, "e": 4, "f": 4})
	twice := []string{"a", "b", "b", "b", "c"}
	places(t, node.Node{Leaf: true, Keys: twice}, map[string]int{"a": 0, "b": 1, "ba": 4, "c": 4, "d": 5})
	places(t, node.Node{Keys: twice}, map[string]int{"a": 0, "b": 3, "c": 4})
}

// P14.3

func TestSplitOfFewerThanTwo(t *testing.T) {
	for _, n := range []node.Node{
		{}, {Leaf: true}, leaf("a", "1"), inner("a"), leaf(text(300), ""),
		{Leaf: true, Keys: []string{"a"}, Vals: []string{"1", "2"}, Kids: []int{3}}, {Kids: []int{1, 2}}, {Leaf: true, Vals: []string{"1"}},
	} {
		first, other := node.Split(n)
		if !same(first, n) || !isNone(other) {
			t.Errorf("Split(%#v) = %#v, %#v", n, first, other)
		}
	}
}

func TestSplit(t *testing.T) {
	splits(t, leaf("a", "1", "b", "2"), 1)
	splits(t, leaf("a", "long long long", "b", "", "c", ""), 1)
	splits(t, leaf("a", "", "b", "", "c", "long long long"), 2)     // all three would be needed
	splits(t, leaf("a", "", "b", text(24)), 1)                      // both would be needed
	splits(t, leaf("a", "", "b", "", "c", "", "d", ""), 2)          // 4 and 7 of 13: half is 6
	splits(t, leaf("a", "", "b", "", "c", ""), 2)                   // 4 of 10 is less than 5
	splits(t, leaf("a", "1", "b", "", "c", ""), 1)                  // 5 of 11: half is 5, without the rest
	splits(t, leaf("a", "", "b", "", "c", "", "d", "", "e", ""), 3) // 7 of 16 is less than 8
	splits(t, inner("", "b"), 1)
	splits(t, inner("", "b", "c"), 2)      // 4 of 12 is less than 6
	splits(t, inner("", "b", "c", "d"), 2) // 8 of 16 is just 8
	splits(t, inner("ab", "b", "c"), 2)    // 6 of 14 is less than 7
	splits(t, inner("abc", "b", "c"), 1)   // 7 of 15: half is 7, without the rest
	splits(t, many(true, 250), 125)
	splits(t, many(false, 60), 30)
}

// What has too few values or kids, or too many, or such of the other kind, is split by what counts.
func TestSplitOfWhatMayNotBe(t *testing.T) {
	for _, l := range []struct{ n, first, other node.Node }{
		{
			node.Node{Leaf: true, Keys: []string{"a", "b", "c"}, Vals: []string{"1"}},
			node.Node{Leaf: true, Keys: []string{"a"}, Vals: []string{"1"}},
			node.Node{Leaf: true, Keys: []string{"b", "c"}},
		},
		{
			node.Node{Leaf: true, Keys: []string{"c", "c", "a"}, Vals: []string{"", "2"}},
			node.Node{Leaf: true, Keys: []string{"c", "c"}, Vals: []string{"", "2"}},
			node.Node{Leaf: true, Keys: []string{"a"}},
		},
		{
			node.Node{Keys: []string{"aa", "b", "c"}, Kids: []int{1}},
			node.Node{Keys: []string{"aa"}, Kids: []int{1}},
			node.Node{Keys: []string{"b", "c"}},
		},
		{
			node.Node{Keys: []string{"a", "b"}, Kids: []int{1, 2, 3, 4}, Vals: []string{"v", "w"}},
			node.Node{Keys: []string{"a"}, Kids: []int{1}, Vals: []string{"v"}},
			node.Node{Keys: []string{"b"}, Kids: []int{2, 3, 4}, Vals: []string{"w"}},
		},
		{ // each of them gets a key
			node.Node{Keys: []string{"", ""}},
			node.Node{Keys: []string{""}},
			node.Node{Keys: []string{""}},
		},
	} {
		first, other := node.Split(l.n)
		if !same(first, l.first) || !same(other, l.other) {
			t.Errorf("Split(%#v) = %#v, %#v, want %#v, %#v", l.n, first, other, l.first, l.other)
		}
		if got := node.Join(first, other); !same(got, l.n) {
			t.Errorf("Join(Split(%#v)) = %#v", l.n, got)
		}
	}
}

func TestJoin(t *testing.T) {
	for _, l := range []struct{ a, b, want node.Node }{
		{leaf("a", "1"), leaf("b", "2", "c", "3"), leaf("a", "1", "b", "2", "c", "3")},
		{inner("a", "b"), inner("c"), node.Node{Keys: []string{"a", "b", "c"}, Kids: []int{50, 51, 50}}},
		{leaf("b", "1"), leaf("a", "2"), leaf("b", "1", "a", "2")}, // no one asks whether it may be
		{leaf("a", "1"), node.Node{}, leaf("a", "1")},
		{node.Node{Leaf: true}, leaf("a", "1"), leaf("a", "1")},
		{node.Node{}, inner("a"), inner("a")},
		{node.Node{}, node.Node{}, node.Node{}},
		{node.Node{Leaf: true}, node.Node{}, node.Node{Leaf: true}},
		{node.Node{}, node.Node{Leaf: true}, node.Node{}},
		{leaf("a", "1"), inner("b"), node.Node{Leaf: true, Keys: []string{"a", "b"}, Vals: []string{"1"}, Kids: []int{50}}},
		{inner("a"), leaf("b", "1"), node.Node{Keys: []string{"a", "b"}, Vals: []string{"1"}, Kids: []int{50}}},
	} {
		if got := node.Join(l.a, l.b); !same(got, l.want) {
			t.Errorf("Join(%#v, %#v) = %#v, want %#v", l.a, l.b, got, l.want)
		}
	}
}

// P14.4: the edges; by chance see slow_test.go

func TestGreatNodesAreSplitIntoTwoThatMayBe(t *testing.T) {
	for _, isLeaf := range []bool{true, false} {
		for size := 100; size <= 292; size++ {
			n := sized(t, isLeaf, size)
			first, other := node.Split(n)
			mayBe(t, first)
			mayBe(t, other)
			if got := node.Join(first, other); !same(got, n) {
				t.Errorf("Join(Split(%#v)) = %#v", n, got)
			}
		}
	}
}

// R4

// roomy is a node whose lists have spare room, with something in it.
func roomy(n node.Node) node.Node {
	n.Keys = append(slices.Clone(n.Keys), "spare", "spare")[:len(n.Keys)]
	n.Vals = append(slices.Clone(n.Vals), "spare", "spare")[:len(n.Vals)]
	n.Kids = append(slices.Clone(n.Kids), 77, 77)[:len(n.Kids)]
	return n
}

// spoil writes over all of a node's lists, their spare room too.
func spoil(n node.Node) {
	for i := range n.Keys[:cap(n.Keys)] {
		n.Keys[:cap(n.Keys)][i] = "spoilt"
	}
	for i := range n.Vals[:cap(n.Vals)] {
		n.Vals[:cap(n.Vals)][i] = "spoilt"
	}
	for i := range n.Kids[:cap(n.Kids)] {
		n.Kids[:cap(n.Kids)][i] = -99
	}
}

func isWhole(t *testing.T, what string, n, want node.Node) {
	t.Helper()
	if !same(n, want) {
		t.Errorf("%s: it is %#v, want %#v", what, n, want)
	}
}

func hasItsSpareRoom(t *testing.T, what string, n node.Node) {
	t.Helper()
	keys, vals, kids := n.Keys[:len(n.Keys)+2], n.Vals[:len(n.Vals)+2], n.Kids[:len(n.Kids)+2]
	if keys[len(n.Keys)] != "spare" || vals[len(n.Vals)] != "spare" || kids[len(n.Kids)] != 77 {
		t.Errorf("%s: its spare room was written: %#v %#v %v", what, keys, vals, kids)
	}
}

func someNodes() []node.Node {
	return []node.Node{leaf("a", "1", "b", "2", "c", "3", "d", "4"), inner("", "b", "c", "d"), leaf("a", "1"), inner("a"), {Leaf: true}}
}

func TestNodesHandedInStay(t *testing.T) {
	for _, want := range someNodes() {
		n := roomy(want)
		node.Size(n)
		node.May(n)
		node.Put(n)
		node.Place(n, "c")
		node.Split(n)
		node.Join(n, n)
		node.Join(n, leaf("x", "y"))
		node.Join(inner("x"), n)
		isWhole(t, "behind all calls", n, want)
		hasItsSpareRoom(t, "behind all calls", n)
	}
}

func TestSplitAndJoinAnswerNewMemory(t *testing.T) {
	for _, want := range someNodes() {
		n := roomy(want)
		first, other := node.Split(n)
		one, two := node.Split(n)
		spoil(first)
		isWhole(t, "the first is spoilt", node.Join(node.Node{Leaf: n.Leaf}, other), node.Join(node.Node{Leaf: n.Leaf}, two))
		spoil(other)
		isWhole(t, "both are spoilt", n, want)
		hasItsSpareRoom(t, "both are spoilt", n)
		isWhole(t, "of another Split", node.Join(one, two), want)

		joined := node.Join(n, node.Node{})
		again := node.Join(node.Node{Leaf: n.Leaf}, n)
		spoil(n)
		isWhole(t, "what was joined is spoilt", joined, want)
		isWhole(t, "what was joined is spoilt", again, want)
		isWhole(t, "what was split is spoilt", node.Join(one, two), want)
		spoil(joined)
		isWhole(t, "another one is spoilt", again, want)
	}
}

func TestBlocksAreNewMemory(t *testing.T) {
	for _, want := range []node.Node{leaf("a", "1", "b", "2"), inner("", "b", "c")} {
		one, _ := node.Put(want)
		other, _ := node.Put(want)
		clear(one.Body[:cap(one.Body)])
		if !bytes.Equal(other.Body, slowBytes(want)) {
			t.Errorf("two blocks share memory: %v", other)
		}
		body := append(slices.Clone(other.Body), 7, 7, 7)
		n, e := node.Get(api.Block{Kind: other.Kind, Body: body[:len(other.Body)]})
		again, _ := node.Get(other)
		if e != api.OK || !bytes.Equal(body, append(slices.Clone(other.Body), 7, 7, 7)) {
			t.Errorf("Get = %v, and the bytes are %v then", e, body)
		}
		clear(body)
		isWhole(t, "the block is spoilt", n, want)
		spoil(n)
		isWhole(t, "another one is spoilt", again, want)
		if !bytes.Equal(other.Body, slowBytes(want)) {
			t.Errorf("the node is spoilt, and the block with it: %v", other)
		}
	}
}

func TestNilIsEmpty(t *testing.T) {
	for _, vals := range [][]string{nil, {}} {
		for _, kids := range [][]int{nil, {}} {
			mayBe(t, node.Node{Leaf: true, Keys: []string{"a"}, Vals: []string{""}, Kids: kids}, 1, 1, 'a', 0)
			mayBe(t, node.Node{Keys: []string{"a"}, Vals: vals, Kids: []int{50}}, 1, 1, 'a', 50, 0)
			for _, keys := range [][]string{nil, {}} {
				n := node.Node{Leaf: true, Keys: keys, Vals: vals, Kids: kids}
				has(t, n, 1)
				mayNot(t, "no keys", n)
				places(t, n, map[string]int{"a": 0})
				first, other := node.Split(n)
				isWhole(t, "Split", first, n)
				isWhole(t, "Split", other, node.Node{})
				isWhole(t, "Join", node.Join(n, n), n)
			}
		}
	}
	for _, body := range [][]byte{nil, {}} {
		isNoNode(t, "no bytes", api.KindLeaf, body...)
	}
}
