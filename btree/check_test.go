package btree_test

import (
	"slices"
	"testing"

	"armoire/api"
	"armoire/btree"
)

// P9.5: Reach are the numbers of all pages, rising, in whatever order they were laid down; Check is how many pairs there are.
func TestReach(t *testing.T) {
	for _, s := range shapes() {
		wantTree(t, s.r, s.root, s.list)
	}
	r := newRoom()
	r.lay(1<<32-1, leaf(pairs(0, 5, 1)))
	r.lay(7, leaf(pairs(10, 6, 1)))
	r.lay(1, leaf(pairs(20, 10, 1)))
	r.lay(3, api.Node{Keys: []string{key(10), key(20)}, Kids: []uint32{1<<32 - 1, 7, 1}})
	r.lay(4, leaf(pairs(0, 1, 1)))
	for root, want := range map[uint32][]uint32{0: nil, 1: {1}, 3: {1, 3, 7, 1<<32 - 1}, 1<<32 - 1: {1<<32 - 1}, 4: {4}} {
		if ids, err := btree.Reach(r, root); err != api.OK || !slices.Equal(ids, want) {
			t.Errorf("Reach(%d): got %v, %d, want %v", root, ids, err, want)
		}
	}
}

// R4: what Reach answers is new memory.
func TestReachMemory(t *testing.T) {
	r := newRoom()
	root := r.build(pairs(0, 100, 1), 5, 12, same)
	want := r.look(root).ids
	ids, _ := btree.Reach(r, root)
	for i := range ids[:cap(ids)] {
		ids[:cap(ids)][i] = 0
	}
	wantWhole(t, r)
	if again, err := btree.Reach(r, root); err != api.OK || !slices.Equal(again, want) {
		t.Errorf("got %v, %d, want %v", again, err, want)
	}
}

// wantCheck looks what Check says, and holds it against what the document's words say, where all pages are there.
func wantCheck(t *testing.T, name string, r *room, root uint32, pairs int, want api.Errno) {
	t.Helper()
	if s := r.look(root); s.sound != (want == api.OK) || s.sound && len(s.pairs) != pairs {
		t.Fatalf("%s: the test is wrong: sound %v, %d pairs", name, s.sound, len(s.pairs))
	}
	if n, err := btree.Check(r, root); n != pairs || err != want {
		t.Errorf("%s: Check: got %d, %d, want %d, %d", name, n, err, pairs, want)
	}
}

// P9.5: ErrPage, if a leaf has fewer than LeafMin pairs, or a node fewer than KidsMin kids, but for the root.
func TestCheckFew(t *testing.T) {
	for left := 1; left <= api.LeafMax; left++ {
		r := newRoom()
		wantCheck(t, "a leaf as the root", r, r.add(leaf(pairs(0, left, 1))), left, api.OK)
		for _, right := range []int{api.LeafMin - 1, api.LeafMin, api.LeafMax} {
			if left < api.LeafMin || right < api.LeafMin {
				wantCheck(t, "two leaves", r, twoLeaves(r, left, right), 0, api.ErrPage)
			} else {
				wantCheck(t, "two leaves", r, twoLeaves(r, left, right), left+right, api.OK)
			}
		}
	}
	for few := 2; few <= api.KidsMax; few++ {
		r := newRoom()
		a := r.build(pairs(0, 5*few, 1), 5, few, same)
		b := r.build(pairs(1000, 60, 1), 5, api.KidsMin, same)
		c := r.build(pairs(2000, 5*few, 1), 5, few, same)
		wantCheck(t, "a root with kids", r, a, 5*few, api.OK)
		count, want := 5*few+60, api.OK
		if few < api.KidsMin {
			count, want = 0, api.ErrPage
		}
		wantCheck(t, "the first kid", r, r.add(api.Node{Keys: []string{key(1000)}, Kids: []uint32{a, b}}), count, want)
		wantCheck(t, "the last kid", r, r.add(api.Node{Keys: []string{key(2000)}, Kids: []uint32{b, c}}), count, want)
	}
}

// P9.5: ErrPage, if a leaf is not as deep as the others, on either side.
func TestCheckDeep(t *testing.T) {
	r := newRoom()
	deep := r.build(pairs(0, 60, 1), 5, 12, same)
	flat := r.add(leaf(pairs(100, 5, 1)))
	behind := r.build(pairs(200, 60, 1), 5, 12, same)
	last := r.build(pairs(300, 60, 1), 5, 12, same)
	keys := []string{key(100), key(200), key(300)}
	wantCheck(t, "the right one", r, r.add(api.Node{Keys: keys[:1], Kids: []uint32{deep, flat}}), 0, api.ErrPage)
	wantCheck(t, "the left one", r, r.add(api.Node{Keys: keys[1:2], Kids: []uint32{flat, behind}}), 0, api.ErrPage)
	wantCheck(t, "between", r, r.add(api.Node{Keys: keys[:2], Kids: []uint32{deep, flat, behind}}), 0, api.ErrPage)
	wantCheck(t, "all but one", r, r.add(api.Node{Keys: keys, Kids: []uint32{deep, flat, behind, last}}), 0, api.ErrPage)
	wantCheck(t, "none", r, r.add(api.Node{Keys: keys[1:], Kids: []uint32{deep, behind, last}}), 180, api.OK)
}

// P9.5: ErrPage, if a key is on the wrong side: of what parts its leaf from the next one, or of what parts nodes further up. On the right side are keys not below what is ahead, and below what is behind.
func TestCheckSide(t *testing.T) {
	for _, c := range []struct {
		left, right api.KV
		part        int
		want        api.Errno
	}{
		{pair(49), pair(50), 50, api.OK},
		{pair(48), pair(50), 49, api.OK},
		{pair(48), pair(50), 51, api.ErrPage},
		{pair(49), pair(50), 49, api.ErrPage},
		{pair(60), pair(61), 50, api.ErrPage},
		{pair(50), pair(50), 50, api.ErrPage},
		{pair(50), pair(50), 51, api.ErrPage},
	} {
		r := newRoom()
		left := r.add(leaf(append(pairs(0, 5, 1), c.left)))
		right := r.add(leaf(append([]api.KV{c.right}, pairs(100, 5, 1)...)))
		root := r.add(api.Node{Keys: []string{key(c.part)}, Kids: []uint32{left, right}})
		count := 0
		if c.want == api.OK {
			count = 12
		}
		wantCheck(t, "two leaves", r, root, count, c.want)
	}
	for part := 290; part <= 410; part++ {
		r := newRoom()
		a := r.build(pairs(0, 60, 5), 5, 12, same) // up to 295
		b := r.build(pairs(400, 60, 5), 5, 12, same)
		root := r.add(api.Node{Keys: []string{key(part)}, Kids: []uint32{a, b}})
		if part > 295 && part <= 400 {
			wantCheck(t, "two nodes", r, root, 120, api.OK)
		} else {
			wantCheck(t, "two nodes", r, root, 0, api.ErrPage)
		}
	}
}

// P9.5: the same, three levels further up, of the first and the last key below each kid.
func TestCheckSideFar(t *testing.T) {
	for _, size := range []struct{ leaf, kids int }{{5, 12}, {10, 24}} {
		for _, change := range []int{-1, 0, 1} {
			r := newRoom()
			root := r.build(pairs(0, 1500, 10), size.leaf, size.kids, same)
			top := roomy(r.copies[root])
			for i, k := range top.Keys {
				moved := roomy(top)
				switch change {
				case -1: // the last key of the kid ahead is not below it
					moved.Keys[i] = lower(k)[:api.MaxKey-1] + "0"
				case 1: // the first key of the kid behind is below it
					moved.Keys[i] = k[:api.MaxKey-1] + "1"
				}
				if next := r.add(moved); change == 0 {
					wantCheck(t, "as it was", r, next, 1500, api.OK)
				} else {
					wantCheck(t, "moved", r, next, 0, api.ErrPage)
				}
			}
		}
	}
}

// P9.5: ErrPage, if a page is reached twice, from one node or from two, or by itself.
func TestCheckTwice(t *testing.T) {
	r := newRoom()
	one := r.add(leaf(pairs(0, 10, 1)))
	other := r.add(leaf(pairs(20, 10, 1)))
	for name, n := range map[string]api.Node{
		"one leaf":    {Keys: []string{key(5)}, Kids: []uint32{one, one}},
		"at the end":  {Keys: []string{key(20), key(25)}, Kids: []uint32{one, other, other}},
		"not beside":  {Keys: []string{key(20), key(30)}, Kids: []uint32{one, other, one}},
		"below all":   {Keys: []string{"\x00" + key(0)[1:]}, Kids: []uint32{one, one}},
		"above all":   {Keys: []string{"\xff" + key(0)[1:]}, Kids: []uint32{one, one}},
		"by first":    {Keys: []string{key(0)}, Kids: []uint32{one, one}},
		"itself":      {Keys: []string{key(20)}, Kids: []uint32{1000, other}},
		"itself last": {Keys: []string{key(20)}, Kids: []uint32{one, 1000}},
		"itself only": {Keys: []string{key(20)}, Kids: []uint32{1000, 1000}},
	} {
		r.lay(1000, n)
		wantCheck(t, name, r, 1000, 0, api.ErrPage)
	}
	a := r.build(pairs(0, 60, 1), 5, 12, same)
	b := roomy(r.copies[r.build(pairs(100, 60, 1), 5, 12, same)])
	b.Kids[3] = r.copies[a].Kids[2]
	wantCheck(t, "by two", r, r.add(api.Node{Keys: []string{key(100)}, Kids: []uint32{a, r.add(b)}}), 0, api.ErrPage)
	b.Kids[3] = a
	wantCheck(t, "on two levels", r, r.add(api.Node{Keys: []string{key(100)}, Kids: []uint32{a, r.add(b)}}), 0, api.ErrPage)
	b.Kids[3] = 2000
	r.lay(2000, api.Node{Keys: []string{key(100)}, Kids: []uint32{a, r.add(b)}})
	wantCheck(t, "the root again", r, 2000, 0, api.ErrPage)
}

// badNodes may not be (chapter 5).
func badNodes() []api.Node {
	return []api.Node{
		{}, {Leaf: true}, leaf(pairs(0, api.LeafMax+1, 1)), leaf([]api.KV{pair(2), pair(1)}), leaf([]api.KV{pair(1), pair(1)}), leaf([]api.KV{{Key: "short"}}),
		{Leaf: true, Pairs: pairs(0, 5, 1), Kids: []uint32{1}}, {Leaf: true, Pairs: pairs(0, 5, 1), Keys: []string{key(1)}},
		{Kids: []uint32{1}}, {Kids: []uint32{1, 2}}, {Kids: []uint32{1}, Keys: []string{key(1)}}, {Keys: []string{key(1)}},
		{Kids: []uint32{1, 2}, Keys: []string{key(1), key(2)}}, {Kids: []uint32{1, 0}, Keys: []string{key(1)}}, {Kids: []uint32{1, 2}, Keys: []string{"short"}},
		{Kids: []uint32{1, 2, 3}, Keys: []string{key(2), key(1)}}, {Kids: []uint32{1, 2}, Keys: []string{key(1)}, Pairs: pairs(0, 1, 1)},
		{Kids: make([]uint32, api.KidsMax+1), Keys: make([]string, api.KidsMax)},
	}
}

// P9.5: ErrPage, if a node may not be, as the root or below it.
func TestCheckBad(t *testing.T) {
	for i, n := range badNodes() {
		r := newRoom()
		r.lay(1, leaf(pairs(0, 5, 1)))
		r.lay(2, leaf(pairs(10, 5, 1)))
		r.lay(5, n)
		r.lay(6, api.Node{Keys: []string{key(10)}, Kids: []uint32{5, 2}})
		r.lay(7, api.Node{Keys: []string{key(10)}, Kids: []uint32{1, 5}})
		for root := range 3 {
			if count, err := btree.Check(r, uint32(5+root)); count != 0 || err != api.ErrPage {
				t.Errorf("the node %d: Check(%d): got %d, %d", i, 5+root, count, err)
			}
		}
	}
}

// P9.5: an error of Read is handed on, if it is met: a page that is not there.
func TestCheckMissing(t *testing.T) {
	r := newRoom()
	root := r.build(pairs(0, 200, 1), 5, 12, same)
	for _, id := range r.look(root).ids {
		c := r.clone()
		delete(c.pages, id)
		if n, err := btree.Check(c, root); n != 0 || err != api.ErrNone {
			t.Errorf("Check without %d: got %d, %d", id, n, err)
		}
		if ids, err := btree.Reach(c, root); len(ids) > 0 || err != api.ErrNone {
			t.Errorf("Reach without %d: got %v, %d", id, ids, err)
		}
	}
}
