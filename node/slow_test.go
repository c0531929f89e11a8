package node_test

import (
	"bytes"
	"math/rand"
	"slices"
	"strings"
	"testing"

	"kist/api"
	"kist/node"
)

// slowBytes is the chapter told once more: the bytes of any node, whose missing values are empty and whose missing kids are left out.
func slowBytes(n node.Node) []byte {
	out := []byte{byte(len(n.Keys))}
	for i, key := range n.Keys {
		out = append(append(out, byte(len(key))), key...)
		if !n.Leaf && i < len(n.Kids) {
			out = append(out, byte(n.Kids[i]%256), byte(n.Kids[i]/256))
		}
		if n.Leaf && i < len(n.Vals) {
			out = append(append(out, byte(len(n.Vals[i]))), n.Vals[i]...)
		} else if n.Leaf {
			out = append(out, 0)
		}
	}
	return out
}

// slowMay is the list of what a node must be, one point behind the other.
func slowMay(n node.Node) bool {
	sorted := slices.Clone(n.Keys)
	slices.SortFunc(sorted, func(a, b string) int { return bytes.Compare([]byte(a), []byte(b)) })
	long := func(s string) bool { return len(s) > 24 }
	switch {
	case len(n.Keys) < 1,
		!slices.Equal(sorted, n.Keys),
		len(slices.Compact(sorted)) < len(n.Keys),
		slices.ContainsFunc(n.Keys, long),
		n.Leaf && slices.Contains(n.Keys, ""),
		n.Leaf && len(n.Vals) != len(n.Keys),
		n.Leaf && slices.ContainsFunc(n.Vals, long),
		n.Leaf && len(n.Kids) != 0,
		!n.Leaf && len(n.Kids) != len(n.Keys),
		!n.Leaf && len(n.Vals) != 0,
		len(slowBytes(n)) > 240:
		return false
	}
	return n.Leaf || slices.Min(n.Kids) >= 0 && slices.Max(n.Kids) <= 65535
}

func slowPlace(n node.Node, key string) int {
	for i, k := range slices.Backward(n.Keys) {
		order := bytes.Compare([]byte(k), []byte(key))
		if n.Leaf && order < 0 {
			return i + 1
		}
		if !n.Leaf && order <= 0 {
			return i
		}
	}
	return 0
}

// slowMany is how many keys the first node of a split has; n may be, but for its Size.
func slowMany(n node.Node) int {
	for many := 1; many < len(n.Keys)-1; many++ {
		if len(slowBytes(part(n, 0, many))) >= len(slowBytes(n))/2 {
			return many
		}
	}
	return len(n.Keys) - 1
}

func anyText(chance *rand.Rand, most int) string {
	letters := "ab\x00\x7f\x80\xff"
	var out strings.Builder
	for range chance.Intn(most + 1) {
		out.WriteByte(letters[chance.Intn(len(letters))])
	}
	return out.String()
}

// anyNode is a node that may be, but for its Size, which is less than most.
func anyNode(chance *rand.Rand, most int) node.Node {
	n := node.Node{Leaf: chance.Intn(2) == 0}
	keyLength, valLength := 1+chance.Intn(24), chance.Intn(25)
	for {
		more := node.Node{Leaf: n.Leaf, Keys: append(slices.Clone(n.Keys), anyText(chance, keyLength)), Vals: n.Vals, Kids: n.Kids}
		slices.Sort(more.Keys)
		more.Keys = slices.Compact(more.Keys)
		if more.Leaf && more.Keys[0] == "" {
			more.Keys[0] = "\x00"
			more.Keys = slices.Compact(more.Keys)
		}
		for more.Leaf && len(more.Vals) < len(more.Keys) {
			more.Vals = append(more.Vals, anyText(chance, valLength))
		}
		for !more.Leaf && len(more.Kids) < len(more.Keys) {
			more.Kids = append(more.Kids, chance.Intn(65536))
		}
		if len(slowBytes(more)) >= most || len(n.Keys) > 0 && chance.Intn(30) == 0 {
			return n
		}
		n = more
	}
}

// bend makes a node, by chance, into one that may not be, or into another.
func bend(chance *rand.Rand, n node.Node) node.Node {
	n = node.Node{Leaf: n.Leaf, Keys: slices.Clone(n.Keys), Vals: slices.Clone(n.Vals), Kids: slices.Clone(n.Kids)}
	i, j := chance.Intn(len(n.Keys)), chance.Intn(len(n.Keys))
	switch chance.Intn(9) {
	case 0:
		n.Leaf = !n.Leaf
	case 1:
		n.Keys[i], n.Keys[j] = n.Keys[j], n.Keys[i]
	case 2:
		n.Keys[i] = n.Keys[j]
	case 3:
		n.Keys[i] += text(chance.Intn(26))
	case 4:
		n.Keys[i] = ""
	case 5:
		n.Vals = append(n.Vals, text(chance.Intn(30)))
	case 6:
		n.Kids = append(n.Kids, chance.Intn(90000)-10000)
	case 7:
		n.Vals = n.Vals[:min(len(n.Vals), i)]
	case 8:
		n.Kids = n.Kids[:min(len(n.Kids), i)]
	}
	return n
}

// isAsTold holds all that is asked of one node against the slow ones.
func isAsTold(t *testing.T, chance *rand.Rand, n node.Node) {
	t.Helper()
	has(t, n, len(slowBytes(n)))
	if slowMay(n) {
		mayBe(t, n, slowBytes(n)...)
	} else {
		mayNot(t, "one that may not be", n)
	}
	for range 5 {
		key := anyText(chance, 5)
		if chance.Intn(2) == 0 {
			key = n.Keys[chance.Intn(len(n.Keys))]
		}
		places(t, n, map[string]int{key: slowPlace(n, key)})
	}
	if got := node.Join(node.Split(n)); !same(got, n) {
		t.Errorf("Join(Split(%#v)) = %#v", n, got)
	}
}

func TestNodesAreTheDocuments(t *testing.T) {
	chance := rand.New(rand.NewSource(141))
	for range 8000 {
		n := anyNode(chance, 60+chance.Intn(300))
		isAsTold(t, chance, n)
		isAsTold(t, chance, bend(chance, n))
		isAsTold(t, chance, bend(chance, bend(chance, n)))
		if t.Failed() {
			t.FailNow()
		}
	}
}

// P14.4
func TestSplitsAreTheDocuments(t *testing.T) {
	chance := rand.New(rand.NewSource(143))
	great := 0
	for range 8000 {
		n := anyNode(chance, 293)
		if len(n.Keys) < 2 {
			continue
		}
		splits(t, n, slowMany(n))
		first, other := node.Split(n)
		mayBe(t, first)
		mayBe(t, other)
		if t.Failed() {
			t.FailNow()
		}
		if node.Size(n) > 240 {
			great++
		}
	}
	if great < 1000 {
		t.Errorf("only %d of the nodes were greater than may be", great)
	}
}

// bodies calls do with all rows of up to most bytes, of those that lead to nodes and their edges.
func bodies(most int, row []byte, do func([]byte)) {
	do(row)
	if len(row) == most {
		return
	}
	for _, b := range []byte{0, 1, 2, 3, 255} {
		bodies(most, append(slices.Clone(row), b), do)
	}
}

// isOneOrNone wants a block to be a node's, whose block it is, just if slow finds one.
func isOneOrNone(t *testing.T, kind int, body []byte, want bool) {
	t.Helper()
	n, e := node.Get(api.Block{Kind: kind, Body: body})
	if !want {
		isNoNode(t, "no node's", kind, body...)
		return
	}
	if e != api.OK || !slowMay(n) || n.Leaf != (kind == api.KindLeaf) || !bytes.Equal(slowBytes(n), body) {
		t.Errorf("Get(%d, %v) = %#v, %v", kind, body, n, e)
	}
}

// slowNode is whether a node that may be has these bytes: all ways to cut them into keys and what stands beside them are tried.
func slowNode(kind int, body []byte) bool {
	if len(body) == 0 {
		return false
	}
	var found func(n node.Node, at int) bool
	found = func(n node.Node, at int) bool {
		if len(n.Keys) == int(body[0]) && slowMay(n) && bytes.Equal(slowBytes(n), body) {
			return true
		}
		for key := at + 1; key <= len(body); key++ {
			more := node.Node{Leaf: n.Leaf, Keys: append(slices.Clone(n.Keys), string(body[at+1:key]))}
			if !n.Leaf && key+2 <= len(body) {
				more.Kids = append(slices.Clone(n.Kids), int(body[key])+256*int(body[key+1]))
				if found(more, key+2) {
					return true
				}
			}
			for val := key + 1; n.Leaf && val <= len(body); val++ {
				more.Vals = append(slices.Clone(n.Vals), string(body[key+1:val]))
				if found(more, val) {
					return true
				}
			}
		}
		return false
	}
	return found(node.Node{Leaf: kind == api.KindLeaf}, 1)
}

func TestGetOfAllShortBodies(t *testing.T) {
	nodes := 0
	bodies(6, nil, func(body []byte) {
		for _, kind := range []int{api.KindLeaf, api.KindInner} {
			want := slowNode(kind, body)
			isOneOrNone(t, kind, body, want)
			if want {
				nodes++
			}
		}
	})
	if nodes < 50 {
		t.Errorf("only %d bodies were nodes'", nodes)
	}
}

// A node's bytes with one that is another are another node's, or none's.
func TestGetOfSpoiltBodies(t *testing.T) {
	chance := rand.New(rand.NewSource(144))
	for range 8000 {
		n := anyNode(chance, 241)
		kind, body := api.KindInner, slowBytes(n)
		if n.Leaf {
			kind = api.KindLeaf
		}
		body[chance.Intn(len(body))] = byte(chance.Intn(256))
		got, e := node.Get(api.Block{Kind: kind, Body: body})
		if e == api.ErrImage && isNone(got) {
			continue
		}
		isOneOrNone(t, kind, body, true)
		if t.Failed() {
			t.FailNow()
		}
	}
}
