package tree

import (
	"kist/api"
	"kist/node"
)

// walk goes down a tree, from its root to as many of its nodes as are asked for.
type walk struct {
	tree  *Tree
	at    func(number int, n node.Node) []int // what is done at a node; it tells the kids to go on to
	ended bool                                // no other node is gone to
	seen  map[int]struct{}                    // the blocks that were come to
}

func (w *walk) from(root int) api.Errno {
	if root == 0 {
		return api.OK
	}
	w.seen = map[int]struct{}{}
	return w.down(root, 1)
}

func (w *walk) down(number, level int) api.Errno {
	// Without this a few blocks that lead to each other would be gone through as often as there are ways to them.
	if _, twice := w.seen[number]; twice {
		return api.ErrImage
	}
	w.seen[number] = struct{}{}
	n, e := w.tree.read(number, level)
	if e != api.OK {
		return e
	}
	for _, kid := range w.at(number, n) {
		if w.ended {
			break
		}
		if e := w.down(kid, level+1); e != api.OK {
			return e
		}
	}
	return api.OK
}
