package fsck

import (
	"kist/api"
	"kist/node"
)

// mostLevels is how deep a tree may go.
const mostLevels = 16

// walk goes through a tree, all keys rising.
type walk struct {
	look   *look
	leaves int                        // the level on which all leaves stand; 0, till one was come to
	at     func(key, val string) bool // what is done at each key; it tells whether to go on
}

// from tells whether the tree of a root is sound, and all its keys were gone on from.
func (w *walk) from(root int) bool { return root == 0 || w.down(root, 1, "", "") }

// down goes to a node on some level, whose keys are to be at least from and below to (any, if to is empty). It ends at the first thing that is amiss: so no two nodes on a level are one, for their keys are other ones.
func (w *walk) down(number, level int, from, to string) bool {
	if level > mostLevels {
		return false
	}
	n, e := w.node(number)
	if e != api.OK || !isWithin(n.Keys, from, to) {
		return false
	}
	w.look.comeTo(number)
	if n.Leaf {
		return w.leaf(n, level)
	}
	for i, kid := range n.Kids {
		end := to
		if i+1 < len(n.Keys) {
			end = n.Keys[i+1]
		}
		if !w.down(kid, level+1, n.Keys[i], end) {
			return false
		}
	}
	return true
}

func (w *walk) leaf(n node.Node, level int) bool {
	if w.leaves == 0 {
		w.leaves = level
	}
	if level != w.leaves {
		return false
	}
	for i, key := range n.Keys {
		if !w.at(key, n.Vals[i]) {
			return false
		}
	}
	return true
}

func (w *walk) node(number int) (node.Node, api.Errno) {
	b, e := w.look.cache.Get(number)
	if e != api.OK {
		return node.Node{}, e
	}
	return node.Get(b)
}

// isWithin tells whether keys of a node, which rise, are at least from and below to (any, if to is empty).
func isWithin(keys []string, from, to string) bool {
	return keys[0] >= from && (to == "" || keys[len(keys)-1] < to)
}
