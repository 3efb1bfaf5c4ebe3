package btree

import (
	"iter"

	"armoire/api"
	"armoire/page"
)

// spot is a node of a tree, how many stand above it, and between which keys its own must be: from low on, and below high, if that is not empty.
type spot struct {
	id        uint32
	node      api.Node
	deep      int
	low, high string
}

// spots goes through the nodes of a tree, but for those whose keys are all below key: each ahead of its kids, these in their order. It ends at an error.
func spots(p Pages, root uint32, key string) iter.Seq2[spot, api.Errno] {
	return func(yield func(spot, api.Errno) bool) {
		if root != 0 {
			visit(p, spot{id: root}, key, yield)
		}
	}
}

// visit tells whether to go on. It goes to no page twice: there the keys would be on the wrong side.
func visit(p Pages, s spot, key string, yield func(spot, api.Errno) bool) bool {
	n, err := read(p, s.id, s.deep)
	if err == api.OK && !s.mayHave(n) {
		err = api.ErrPage
	}
	if err != api.OK {
		yield(spot{}, err)
		return false
	}
	s.node = n
	if !yield(s, api.OK) {
		return false
	}
	for i := page.Child(n, key); i < len(n.Kids); i++ {
		if !visit(p, s.below(i), key, yield) {
			return false
		}
	}
	return true
}

// mayHave tells whether a node's keys, which rise, are on the right side.
func (s spot) mayHave(n api.Node) bool {
	first, last := ends(n)
	return first >= s.low && (s.high == "" || last < s.high)
}

func ends(n api.Node) (first, last string) {
	if n.Leaf {
		return n.Pairs[0].Key, n.Pairs[len(n.Pairs)-1].Key
	}
	return n.Keys[0], n.Keys[len(n.Keys)-1]
}

// below is where the kid i stands.
func (s spot) below(i int) spot {
	k := spot{id: s.node.Kids[i], deep: s.deep + 1, low: s.low, high: s.high}
	if i > 0 {
		k.low = s.node.Keys[i-1]
	}
	if i < len(s.node.Keys) {
		k.high = s.node.Keys[i]
	}
	return k
}
