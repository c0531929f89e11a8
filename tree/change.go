package tree

import (
	"slices"

	"kist/api"
	"kist/node"
)

// least is the Size below which a node out of which something was taken is joined with one beside it, if they go into one.
const least = api.BodySize / 2

// change makes another tree of one: it goes down to the leaf of a key, and on its way up writes a node in place of each that it came through.
type change struct {
	tree   *Tree
	key    string
	atLeaf func(n node.Node) node.Node // what is done at the leaf
	joins  bool                        // nodes that are small then are joined
	levels int                         // how many the tree has
	took   []int
	gone   []int // the new ones of the tree's blocks that the other one has no more
}

// made is the other tree's root. Blocks of the one are let go only when all of the other stands: a change that is refused leaves them as they are.
func (c *change) made(root int) (int, api.Errno) {
	other, e := c.rooted(root)
	if e != api.OK {
		c.tree.letGo(c.took)
		return 0, e
	}
	c.tree.letGo(c.gone)
	return other, api.OK
}

func (c *change) rooted(root int) (int, api.Errno) {
	parts, e := c.parts(root)
	switch {
	case e != api.OK || len(parts) == 0:
		return 0, e
	case len(parts) == 1 && len(parts[0].Kids) == 1:
		return parts[0].Kids[0], api.OK
	case len(parts) == 1:
		return c.write(parts[0])
	}
	return c.raise(parts)
}

func (c *change) parts(root int) ([]node.Node, api.Errno) {
	if root == 0 {
		return pieces(c.atLeaf(node.Node{Leaf: true})), api.OK
	}
	return c.below(root, 1)
}

// raise is a root over nodes. Its first key is empty, so that no key that is put later is less.
func (c *change) raise(parts []node.Node) (int, api.Errno) {
	if c.levels == mostLevels {
		return 0, api.ErrImage
	}
	top, e := c.replace(node.Node{Keys: []string{""}, Kids: []int{0}}, 0, 1, parts)
	if e != api.OK {
		return 0, e
	}
	return c.write(top)
}

// below is the nodes that come in place of a block's, none to two of them, all below them written.
func (c *change) below(number, level int) ([]node.Node, api.Errno) {
	n, e := c.tree.read(number, level)
	if e != api.OK {
		return nil, e
	}
	c.leave(number)
	if n.Leaf {
		c.levels = level
		return pieces(c.atLeaf(n)), api.OK
	}
	at := node.Place(n, c.key)
	parts, e := c.below(n.Kids[at], level+1)
	if e != api.OK {
		return nil, e
	}
	// A key beside a kid may be above those that go below it only at the first place: it must not stay so.
	n.Keys[at] = min(n.Keys[at], c.key)
	first, end := at, at+1
	if c.joins && len(parts) == 1 && node.Size(parts[0]) < least {
		if parts[0], first, end, e = c.joined(n, at, level, parts[0]); e != api.OK {
			return nil, e
		}
	}
	if n, e = c.replace(n, first, end, parts); e != api.OK {
		return nil, e
	}
	return pieces(n), api.OK
}

// joined is what comes in place of the kid at a place, joined with the one ahead of it or behind it, if it may be, and the places of the kids that it comes in place of.
func (c *change) joined(n node.Node, at, level int, part node.Node) (node.Node, int, int, api.Errno) {
	for _, beside := range [...]int{at - 1, at + 1} {
		if beside < 0 || beside >= len(n.Kids) {
			continue
		}
		other, e := c.tree.read(n.Kids[beside], level+1)
		if e != api.OK {
			return node.Node{}, 0, 0, e
		}
		first, both := at, node.Join(part, other)
		if beside < at {
			first, both = beside, node.Join(other, part)
		}
		if node.May(both) {
			c.leave(n.Kids[beside])
			return both, first, first + 2, api.OK
		}
	}
	return part, at, at + 1, api.OK
}

// replace is an inner node with other kids, that are written here, in place of those from a place up to another one.
func (c *change) replace(n node.Node, first, end int, parts []node.Node) (node.Node, api.Errno) {
	var keys []string
	var kids []int
	for i, part := range parts {
		kid, e := c.write(part)
		if e != api.OK {
			return node.Node{}, e
		}
		key := part.Keys[0]
		if i == 0 {
			key = n.Keys[first]
		}
		keys, kids = append(keys, key), append(kids, kid)
	}
	n.Keys = slices.Replace(n.Keys, first, end, keys...)
	n.Kids = slices.Replace(n.Kids, first, end, kids...)
	return n, api.OK
}

// write puts a node into a block that is new.
func (c *change) write(n node.Node) (int, api.Errno) {
	b, e := node.Put(n)
	if e != api.OK {
		return 0, api.ErrImage // its keys do not rise: the tree was not sound
	}
	number, ok := c.tree.blocks.Take()
	if !ok {
		return 0, api.ErrSpace
	}
	c.took = append(c.took, number)
	c.tree.fresh[number] = struct{}{}
	if e := c.tree.cache.Put(number, b); e != api.OK {
		return 0, e
	}
	return number, api.OK
}

// leave notes a block that the other tree has no more.
func (c *change) leave(number int) {
	if c.tree.isNew(number) {
		c.gone = append(c.gone, number)
	}
}

// pieces is a node as nodes that may be: none, if it has no keys, two, if it is too great.
func pieces(n node.Node) []node.Node {
	switch {
	case len(n.Keys) == 0:
		return nil
	case node.Size(n) <= api.BodySize:
		return []node.Node{n}
	}
	first, other := node.Split(n)
	return []node.Node{first, other}
}
