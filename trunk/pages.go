package trunk

import (
	"slices"

	"armoire/api"
	"armoire/btree"
	"armoire/disk"
	"armoire/page"
	"armoire/pool"
)

const firstPage = api.Fixed + api.LogBlocks

// pages are the pool's, of which trees are made. Those that are taken are the trunk's.
type pages struct{ *pool.Pool }

// pagesOf are those of a disk, of which a tree's are taken.
func pagesOf(d *disk.Disk, root uint32) (pages, api.Errno) {
	var all []int
	for block := firstPage; block < d.Blocks(); block++ {
		all = append(all, block)
	}
	// Which ones the tree has is only known when they have been read, and what is free is not read.
	p, err := pool.New(d, firstPage, all)
	if err != api.OK {
		return pages{}, err
	}
	reached, err := pages{p}.reach([]uint32{root})
	if err != api.OK {
		return pages{}, err
	}
	p, err = pool.New(d, firstPage, blocksOf(reached))
	return pages{p}, err
}

// Read tells by one number that something is no page of a tree.
func (p pages) Read(id uint32) (api.Node, api.Errno) {
	n, err := p.Pool.Read(id)
	if err != api.OK && err != api.ErrDown {
		err = api.ErrPage
	}
	return n, err
}

// do does steps to a tree of so many items.
func (p pages) do(l []Step, root uint32, items int) (uint32, int, api.Errno) {
	for _, s := range l {
		next, more, err := p.doStep(s, root)
		if err != api.OK {
			return 0, 0, err
		}
		root = next
		items += more
	}
	return root, items, api.OK
}

// doStep is the tree behind a step, and how many items it has more.
func (p pages) doStep(s Step, root uint32) (uint32, int, api.Errno) {
	if s.Gone {
		next, was, err := btree.Del(p, root, s.Key)
		return next, -count(was), err
	}
	next, isNew, err := btree.Put(p, root, api.KV{Key: s.Key, Value: s.Value})
	return next, count(isNew), err
}

func count(is bool) int {
	if is {
		return 1
	}
	return 0
}

// redo is what becomes of h by a record.
func (p pages) redo(h api.Head, group []string) (api.Head, api.Errno) {
	l, next, err := stepsOf(group)
	if err != api.OK {
		return api.Head{}, err
	}
	root, items, err := p.do(l, h.Root, int(h.Items))
	if err != api.OK {
		return api.Head{}, err
	}
	return api.Head{Version: h.Version + 1, Root: root, Next: next, Items: uint32(items)}, api.OK
}

// reach are the pages that some trees reach, each once.
func (p pages) reach(roots []uint32) ([]uint32, api.Errno) {
	var all []uint32
	for _, root := range roots {
		ids, err := btree.Reach(p, root)
		if err != api.OK {
			return nil, err
		}
		all = append(all, ids...)
	}
	slices.Sort(all)
	return slices.Compact(all), api.OK
}

// mayBegin tells whether a trunk may begin with these pairs: they stand in one leaf.
func mayBegin(pairs []api.KV) bool { return len(pairs) == 0 || page.CheckNode(leafOf(pairs)) == api.OK }

// leaf is a tree of pairs that are in one leaf.
func (p pages) leaf(pairs []api.KV) (uint32, api.Errno) {
	if len(pairs) == 0 {
		return 0, api.OK
	}
	return p.Write(leafOf(pairs))
}

func leafOf(pairs []api.KV) api.Node { return api.Node{Leaf: true, Pairs: pairs} }

func blocksOf(ids []uint32) []int {
	list := make([]int, len(ids))
	for i, id := range ids {
		list[i] = int(id)
	}
	return list
}
