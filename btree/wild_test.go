package btree_test

import (
	"math/rand"
	"slices"
	"strconv"
	"testing"

	"armoire/api"
	"armoire/btree"
)

// try does each call: R1 says that it ends, and does not panic, and R2 that beside an error there is nothing.
func try(t *testing.T, p btree.Pages, root uint32, k string) {
	t.Helper()
	if v, is, err := btree.Get(p, root, k); !is && v != "" || err != api.OK && is {
		t.Errorf("Get(%d, %q): got %q, %v, %d", root, k, v, is, err)
	}
	ended := false
	for kv, err := range btree.From(p, root, k) {
		if ended || err != api.OK && kv != (api.KV{}) {
			t.Errorf("From(%d, %q): got %v, %d", root, k, kv, err)
		}
		ended = err != api.OK
	}
	if next, is, err := btree.Put(p, root, api.KV{Key: k, Value: "v"}); err != api.OK && (next != 0 || is) {
		t.Errorf("Put(%d, %q): got %d, %v, %d", root, k, next, is, err)
	}
	if next, is, err := btree.Del(p, root, k); err != api.OK && (next != 0 || is) {
		t.Errorf("Del(%d, %q): got %d, %v, %d", root, k, next, is, err)
	}
	if ids, err := btree.Reach(p, root); err != api.OK && len(ids) > 0 {
		t.Errorf("Reach(%d): got %v, %d", root, ids, err)
	}
	if n, err := btree.Check(p, root); err != api.OK && n != 0 {
		t.Errorf("Check(%d): got %d, %d", root, n, err)
	}
}

// R1: nodes that may not be, as the root, below it, and beside what is deleted.
func TestWildNodes(t *testing.T) {
	for _, n := range badNodes() {
		r := newRoom()
		r.last = 100
		r.lay(1, leaf(pairs(0, 5, 1)))
		r.lay(2, leaf(pairs(10, 5, 1)))
		r.lay(3, n)
		r.lay(4, api.Node{Keys: []string{key(10)}, Kids: []uint32{1, 3}})
		r.lay(5, api.Node{Keys: []string{key(10)}, Kids: []uint32{3, 2}})
		r.lay(6, api.Node{Keys: []string{key(10)}, Kids: []uint32{1, 4}})
		for root := range 8 {
			for _, k := range []string{key(0), key(4), key(10), key(14), "", "\xff"} {
				try(t, r, uint32(root), k)
			}
		}
		wantWhole(t, r)
	}
}

// R1: pages that reach themselves, or each other, round and round.
func TestWildRounds(t *testing.T) {
	r := newRoom()
	r.last = 100
	var wide api.Node
	for i := range api.KidsMax {
		wide.Kids = append(wide.Kids, 5)
		if i > 0 {
			wide.Keys = append(wide.Keys, key(i))
		}
	}
	r.lay(1, api.Node{Keys: []string{key(10)}, Kids: []uint32{1, 1}})
	r.lay(2, api.Node{Keys: []string{key(10)}, Kids: []uint32{3, 3}})
	r.lay(3, api.Node{Keys: []string{key(20)}, Kids: []uint32{2, 2}})
	r.lay(4, leaf(pairs(0, 5, 1)))
	r.lay(5, wide)
	r.lay(6, api.Node{Keys: []string{key(10)}, Kids: []uint32{4, 6}})
	r.lay(7, api.Node{Keys: []string{key(10)}, Kids: []uint32{7, 4}})
	for root := range 8 {
		for _, k := range []string{key(0), key(9), key(10), key(15), key(20), key(25), "", "\xff"} {
			try(t, r, uint32(root), k)
		}
	}
}

// R1: a leaf beside a node with kids is not joined with it, in either order: nothing is written or dropped.
func TestWildJoin(t *testing.T) {
	r := newRoom()
	flat := r.add(leaf(pairs(100, 5, 1)))
	for _, c := range []struct {
		first, part, key int
	}{{0, 100, 100}, {200, 200, 104}} {
		kids := []uint32{r.build(pairs(c.first, 60, 1), 5, 12, same), flat}
		if c.first > 100 {
			slices.Reverse(kids)
		}
		root := r.add(api.Node{Keys: []string{key(c.part)}, Kids: kids})
		r.calls = nil
		if next, is, err := btree.Del(r, root, key(c.key)); next != 0 || is || err != api.ErrPage || r.ids('w') != nil || r.ids('d') != nil {
			t.Errorf("Del(%d): got %d, %v, %d, calls %v", c.key, next, is, err, r.calls)
		}
	}
}

// endless has a node of two kids on every page: whoever goes down comes to no leaf.
type endless struct{ *room }

func (e endless) Read(id uint32) (api.Node, api.Errno) {
	return api.Node{Keys: []string{key(int(id))}, Kids: []uint32{id/2 + 1, id + 2}}, api.OK
}

// R1: ways that do not end.
func TestWildEndless(t *testing.T) {
	for _, root := range []uint32{1, 2, 1000, 1<<32 - 2, 1<<32 - 1} {
		for _, k := range []string{key(0), key(1), key(1000), key(1 << 33), "", "\xff"} {
			try(t, endless{newRoom()}, root, k)
		}
	}
}

// R1: nodes of any kind one below the other, in trees that are not sound.
func TestWildTrees(t *testing.T) {
	rnd := rand.New(rand.NewSource(9))
	for range 3000 {
		r := newRoom()
		r.last = 100
		for id := range 12 {
			r.lay(uint32(id+1), wildNode(rnd))
		}
		for range 6 {
			try(t, r, uint32(rnd.Intn(14)), key(rnd.Intn(40)))
		}
		wantWhole(t, r)
	}
}

// wildNode may be, but stands anywhere.
func wildNode(rnd *rand.Rand) api.Node {
	n := api.Node{Leaf: rnd.Intn(3) > 0}
	k := rnd.Intn(10)
	for range 1 + rnd.Intn(api.LeafMax) {
		if k++; n.Leaf {
			n.Pairs = append(n.Pairs, pair(k))
		} else {
			n.Keys = append(n.Keys, key(k))
			n.Kids = append(n.Kids, uint32(1+rnd.Intn(13)))
		}
		k += rnd.Intn(5)
	}
	if !n.Leaf {
		n.Kids = append(n.Kids, uint32(1+rnd.Intn(13)))
	}
	return n
}

// P9.5: sound trees of which one page was changed by chance: Check says what the document's words say.
func TestWildCheck(t *testing.T) {
	rnd := rand.New(rand.NewSource(95))
	sound := 0
	for i := range 3000 {
		r := newRoom()
		root := r.build(pairs(100, 1+rnd.Intn(300), 10), 5+rnd.Intn(6), 12+rnd.Intn(13), same)
		ids := r.look(root).ids
		id := ids[rnd.Intn(len(ids))]
		r.lay(id, changed(rnd, r.copies[id], ids))
		s := r.look(root)
		n, err := btree.Check(r, root)
		if s.sound && (n != len(s.pairs) || err != api.OK) || !s.sound && (n != 0 || err != api.ErrPage) {
			t.Fatalf("%d: Check: got %d, %d, want sound %v, %d pairs", i, n, err, s.sound, len(s.pairs))
		}
		if s.sound {
			sound++
		}
	}
	if sound < 300 || sound > 2700 {
		t.Errorf("%d trees of 3000 were sound", sound)
	}
}

// changed is a node with one thing in it that is another one.
func changed(rnd *rand.Rand, n api.Node, ids []uint32) api.Node {
	n = roomy(n)
	if n.Leaf {
		at := rnd.Intn(len(n.Pairs))
		if rnd.Intn(2) == 0 {
			n.Pairs = slices.Delete(n.Pairs, at, at+1)
		} else {
			n.Pairs[at] = near(rnd, n.Pairs[at].Key)
		}
		return n
	}
	at := rnd.Intn(len(n.Keys))
	switch rnd.Intn(4) {
	case 0:
		n.Keys, n.Kids = slices.Delete(n.Keys, at, at+1), slices.Delete(n.Kids, at, at+1)
	case 1:
		n.Kids[at] = ids[rnd.Intn(len(ids))]
	default:
		n.Keys[at] = near(rnd, n.Keys[at]).Key
	}
	return n
}

// near is a pair whose key is some way off another one.
func near(rnd *rand.Rand, k string) api.KV {
	n, _ := strconv.Atoi(k)
	return pair(n - 12 + rnd.Intn(25))
}
