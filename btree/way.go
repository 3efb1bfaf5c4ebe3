package btree

import (
	"cmp"
	"slices"

	"armoire/api"
	"armoire/page"
)

// longest is how many nodes stand one below the other in a sound tree, at the most: with one more it would want 2 * 12^9 pages, more than there are numbers.
const longest = 10

// step is a node with kids on the way down, and to which of them the way goes on.
type step struct {
	node api.Node
	kid  int
}

// way is the way from the root down to the leaf that has a key, if any has it. Of the tree 0 it is empty.
type way struct {
	ids   []uint32 // of all its nodes
	steps []step
	leaf  api.Node
}

func wayTo(p Pages, root uint32, key string) (way, api.Errno) {
	var w way
	id := root
down:
	for id != 0 {
		n, err := read(p, id, len(w.ids))
		switch {
		case err != api.OK:
			return way{}, err
		case n.Leaf:
			w.ids = append(w.ids, id)
			w.leaf = n
			break down
		}
		at := page.Child(n, key)
		w.ids = append(w.ids, id)
		w.steps = append(w.steps, step{node: n, kid: at})
		id = n.Kids[at]
	}
	return w, api.OK
}

// read reads a node with deep others above it. Whoever asks relies on it that the node may be, and that no way goes on for ever, whatever Pages has.
func read(p Pages, id uint32, deep int) (api.Node, api.Errno) {
	if deep == longest {
		return api.Node{}, api.ErrPage
	}
	n, err := p.Read(id)
	if err == api.OK {
		err = page.CheckNode(n)
	}
	if err != api.OK {
		return api.Node{}, err
	}
	return n, api.OK
}

// find is where a key stands among a leaf's pairs, or would stand, and whether it does.
func find(pairs []api.KV, key string) (int, bool) {
	return slices.BinarySearchFunc(pairs, key, func(pair api.KV, key string) int { return cmp.Compare(pair.Key, key) })
}
