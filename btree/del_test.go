package btree_test

import (
	"testing"

	"armoire/api"
)

// P9.2, P9.3: of a key that is not there: root itself, nothing is written or dropped.
func TestDelNone(t *testing.T) {
	for _, s := range shapes() {
		there := map[string]int{}
		for _, kv := range s.list {
			there[kv.Key] = 1
		}
		for _, k := range askedKeys(s.list) {
			if there[k] == 0 {
				wantNoDel(t, s.r, s.root, k)
			}
		}
		wantWhole(t, s.r)
	}
}

// P9.2, P9.3, P9.6: each key of trees whose pages have as much as may be, as little, or between.
func TestDelAnywhere(t *testing.T) {
	for _, s := range shapes() {
		for i := 0; i < len(s.list); i += 1 + len(s.list)/60 {
			k := s.list[i].Key
			next := wantDel(t, s.r, s.root, k)
			wantGet(t, s.r, next, k, "", false)
			wantNoDel(t, s.r, next, k)
			wantGet(t, s.r, s.root, k, s.list[i].Value, true)
			if again := wantPut(t, s.r, next, s.list[i], true); i%7 == 0 {
				wantTree(t, s.r, again, s.list)
			}
		}
		wantTree(t, s.r, s.root, s.list)
		wantWhole(t, s.r)
	}
}

// P9.2: the last pair's tree without it is 0; nothing is written, its page is dropped.
func TestDelLast(t *testing.T) {
	r := newRoom()
	root := wantPut(t, r, 0, pair(5), true)
	wantNoDel(t, r, root, key(4))
	wantNoDel(t, r, root, key(6))
	if next := wantDel(t, r, root, key(5)); next != 0 || r.ids('w') != nil {
		t.Errorf("got %d, written %v", next, r.ids('w'))
	}
	wantTree(t, r, root, pairs(5, 1, 1))
}

// twoLeaves is a root with two leaves of so many pairs.
func twoLeaves(r *room, left, right int) uint32 {
	a, b := r.add(leaf(pairs(0, left, 1))), r.add(leaf(pairs(100, right, 1)))
	return r.add(api.Node{Keys: []string{key(100)}, Kids: []uint32{a, b}})
}

// P9.2, P9.3: leaves with LeafMin pairs and one more, beside ones with any number, left and right of them.
func TestDelLeaves(t *testing.T) {
	for left := api.LeafMin; left <= api.LeafMax; left++ {
		for right := api.LeafMin; right <= api.LeafMax; right++ {
			r := newRoom()
			root := twoLeaves(r, left, right)
			for i := range left {
				next := wantDel(t, r, root, key(i))
				wantRootLeaf(t, r, next, left == api.LeafMin && left+right == 10)
			}
			for i := range right {
				next := wantDel(t, r, root, key(100+i))
				wantRootLeaf(t, r, next, right == api.LeafMin && left+right == 10)
			}
			wantTree(t, r, root, append(pairs(0, left, 1), pairs(100, right, 1)...))
		}
	}
}

// wantRootLeaf looks whether a root is a leaf where it must be: two leaves of LeafMin pairs without one of them can't be two.
func wantRootLeaf(t *testing.T, r *room, root uint32, must bool) {
	t.Helper()
	if must && !r.pages[root].Leaf {
		t.Errorf("the root: got %v", r.pages[root])
	}
}

// P9.2, P9.3: nodes with KidsMin kids and one more, beside ones with any number, left and right of them.
func TestDelKids(t *testing.T) {
	for _, left := range []int{api.KidsMin, api.KidsMin + 1, api.KidsMin + 2, api.KidsMax - 1, api.KidsMax} {
		for _, right := range []int{api.KidsMin, api.KidsMin + 1, api.KidsMin + 2, api.KidsMax - 1, api.KidsMax} {
			r := newRoom()
			a := r.build(pairs(0, 5*left, 1), 5, left, same)
			b := r.build(pairs(1000, 5*right, 1), 5, right, same)
			root := r.add(api.Node{Keys: []string{key(1000)}, Kids: []uint32{a, b}})
			list := append(pairs(0, 5*left, 1), pairs(1000, 5*right, 1)...)
			wantTree(t, r, root, list)
			for _, kv := range list {
				wantDel(t, r, root, kv.Key)
			}
			wantWhole(t, r)
		}
	}
}

// P9.3: how many pages are written and dropped where all nodes on the way have as little as may be: on each level but the root's the one beside is joined too.
func TestDelCounts(t *testing.T) {
	for _, c := range []struct{ count, wrote, dropped int }{
		{5, 1, 1},
		{10, 1, 3},
		{60, 2, 3},
		{120, 2, 5},
		{1440, 3, 7},
	} {
		r := newRoom()
		root := r.build(pairs(0, c.count, 1), 5, 12, same)
		next := wantDel(t, r, root, key(0))
		if wrote, dropped := len(r.ids('w')), len(r.ids('d')); wrote > c.wrote || dropped > c.dropped {
			t.Errorf("%v: %d written, %d dropped", c, wrote, dropped)
		}
		wantTree(t, r, next, pairs(1, c.count-1, 1))
	}
}
