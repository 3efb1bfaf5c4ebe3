package btree

import (
	"slices"

	"armoire/api"
)

// edit is a tree in the making.
type edit struct {
	pages Pages
	made  []uint32 // what was written
	gone  []uint32 // pages of the elder tree in whose place that stands
}

// remake is the tree with other pairs in the leaf of a way. It writes all pages ahead of dropping any: till the new tree is there, the elder one is.
func remake(p Pages, w way, pairs []api.KV) (uint32, api.Errno) {
	t := edit{pages: p, gone: w.ids}
	n := api.Node{Leaf: true, Pairs: pairs}
	for _, s := range slices.Backward(w.steps) {
		var err api.Errno
		if n, err = t.lift(s, n); err != api.OK {
			return 0, err
		}
	}
	root, err := t.top(n)
	if err != api.OK {
		return 0, err
	}
	return root, t.drop()
}

// lift writes n, which comes in the place of a step's kid, with the one beside it if it is too small, and is the step's node with what was written.
func (t *edit) lift(s step, n api.Node) (api.Node, api.Errno) {
	from, to := s.kid, s.kid+1
	if isSmall(n) {
		var err api.Errno
		from = max(s.kid-1, 0)
		to = from + 2
		if n, err = t.joinBeside(s, n, from); err != api.OK {
			return api.Node{}, err
		}
	}
	ids, keys, err := t.write(n)
	if err != api.OK {
		return api.Node{}, err
	}
	return replaceKids(s.node, from, to, ids, keys), api.OK
}

// joinBeside joins n with the other one of the kids left and left + 1.
func (t *edit) joinBeside(s step, n api.Node, left int) (api.Node, api.Errno) {
	beside := left
	if s.kid == left {
		beside++
	}
	id := s.node.Kids[beside]
	other, err := read(t.pages, id, 0)
	if err != api.OK {
		return api.Node{}, err
	}
	if other.Leaf != n.Leaf {
		return api.Node{}, api.ErrPage
	}
	t.gone = append(t.gone, id)
	if beside == left {
		return join(other, s.node.Keys[left], n), api.OK
	}
	return join(n, s.node.Keys[left], other), api.OK
}

// top writes n as the root, or a root above its halves; what has no pairs is the tree 0, what has one kid is that kid.
func (t *edit) top(n api.Node) (uint32, api.Errno) {
	if n.Leaf && len(n.Pairs) == 0 {
		return 0, api.OK
	}
	if len(n.Kids) == 1 {
		return n.Kids[0], api.OK
	}
	ids, keys, err := t.write(n)
	if err == api.OK && len(ids) > 1 {
		ids, _, err = t.write(api.Node{Keys: keys, Kids: ids})
	}
	if err != api.OK {
		return 0, err
	}
	return ids[0], api.OK
}

// write writes n as one page or as two, and tells the key that parts them.
func (t *edit) write(n api.Node) (ids []uint32, keys []string, err api.Errno) {
	nodes, keys := halves(n)
	for _, half := range nodes {
		id, err := t.pages.Write(half)
		if err != api.OK {
			return nil, nil, err
		}
		ids = append(ids, id)
	}
	t.made = append(t.made, ids...)
	return ids, keys, api.OK
}

// drop leaves out what was written again under its own number: the new tree reaches it.
func (t *edit) drop() api.Errno {
	for _, id := range t.gone {
		if slices.Contains(t.made, id) {
			continue
		}
		if err := t.pages.Drop(id); err != api.OK {
			return err
		}
	}
	return api.OK
}
