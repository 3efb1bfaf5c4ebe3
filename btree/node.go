package btree

import (
	"slices"

	"armoire/api"
)

// sizes are how much a node has, and how much it must have, unless it is the root, and may have.
func sizes(n api.Node) (size, least, most int) {
	if n.Leaf {
		return len(n.Pairs), api.LeafMin, api.LeafMax
	}
	return len(n.Kids), api.KidsMin, api.KidsMax
}

func isSmall(n api.Node) bool {
	size, least, _ := sizes(n)
	return size < least
}

// halves is n alone, or, if it has more than it may, its halves with the key that parts them. They are clipped: whoever is handed one of them has no room in the other.
func halves(n api.Node) ([]api.Node, []string) {
	size, _, most := sizes(n)
	if size <= most {
		return []api.Node{n}, nil
	}
	half := size / 2
	if n.Leaf {
		left := api.Node{Leaf: true, Pairs: slices.Clip(n.Pairs[:half])}
		right := api.Node{Leaf: true, Pairs: n.Pairs[half:]}
		return []api.Node{left, right}, []string{right.Pairs[0].Key}
	}
	left := api.Node{Keys: slices.Clip(n.Keys[:half-1]), Kids: slices.Clip(n.Kids[:half])}
	right := api.Node{Keys: n.Keys[half:], Kids: n.Kids[half:]}
	return []api.Node{left, right}, []string{n.Keys[half-1]}
}

// join makes one node of two of a kind that stand side by side, parted by key.
func join(left api.Node, key string, right api.Node) api.Node {
	if left.Leaf {
		return api.Node{Leaf: true, Pairs: slices.Concat(left.Pairs, right.Pairs)}
	}
	return api.Node{
		Keys: slices.Concat(left.Keys, []string{key}, right.Keys),
		Kids: slices.Concat(left.Kids, right.Kids),
	}
}

// replaceKids is n with ids, parted by keys, in the place of its kids from from on up to to.
func replaceKids(n api.Node, from, to int, ids []uint32, keys []string) api.Node {
	return api.Node{
		Keys: slices.Concat(n.Keys[:from], keys, n.Keys[to-1:]),
		Kids: slices.Concat(n.Kids[:from], ids, n.Kids[to:]),
	}
}
