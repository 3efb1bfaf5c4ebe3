package btree_test

import (
	"slices"
	"strings"
	"testing"

	"armoire/api"
	"armoire/btree"
)

// P9.2: a key has just MaxKey bytes, a value MaxValue at the most; else nothing is read, written or dropped, also in a tree that is not there.
func TestPutArg(t *testing.T) {
	r := newRoom()
	root := r.build(pairs(0, 30, 1), 5, 12, same)
	k := key(3)
	long := strings.Repeat("x", api.MaxValue+1)
	wrong := []api.KV{{}, {Key: k[1:]}, {Key: k + "\x00"}, {Key: k[1:], Value: "v"}, {Key: k, Value: long}, {Key: key(77), Value: long}, {Key: k + k, Value: long}, {Key: k, Value: long + long}, {Value: "v"}}
	for _, kv := range wrong {
		for _, at := range []uint32{0, root, 9999} {
			if next, is, err := btree.Put(r, at, kv); next != 0 || is || err != api.ErrArg {
				t.Errorf("Put(%d, %v): got %d, %v, %d, want ErrArg", at, kv, next, is, err)
			}
		}
	}
	if len(r.calls) > 0 {
		t.Errorf("got the calls %v", r.calls)
	}
	for _, value := range []string{"", "x", long[1:]} {
		wantPut(t, r, root, api.KV{Key: k, Value: value}, false)
		wantPut(t, r, root, api.KV{Key: key(77), Value: value}, true)
		wantPut(t, r, 0, api.KV{Key: key(77), Value: value}, true)
	}
	wantTree(t, r, root, pairs(0, 30, 1))
}

// P9.2: in the place of one of that key, whatever stood there; also by just the same pair.
func TestPutOver(t *testing.T) {
	for _, s := range shapes() {
		if len(s.list) == 0 || len(s.list) > 300 {
			continue
		}
		for i := 0; i < len(s.list); i += 1 + len(s.list)/40 {
			kv := s.list[i]
			next := wantPut(t, s.r, s.root, kv, false)
			next = wantPut(t, s.r, next, api.KV{Key: kv.Key, Value: "another"}, false)
			next = wantPut(t, s.r, next, api.KV{Key: kv.Key}, false)
			wantGet(t, s.r, next, kv.Key, "", true)
			wantGet(t, s.r, s.root, kv.Key, kv.Value, true)
		}
		wantWhole(t, s.r)
	}
}

// P9.2, P9.3, P9.6: a new key at each place of trees whose pages have as much as may be, as little, or between.
func TestPutAnywhere(t *testing.T) {
	for _, s := range shapes() {
		for i := 0; i <= len(s.list); i += 1 + len(s.list)/60 {
			for _, n := range []int{95 + 10*i, 99 + 10*i} {
				next := wantPut(t, s.r, s.root, pair(n), true)
				wantGet(t, s.r, next, key(n), pair(n).Value, true)
				wantGet(t, s.r, s.root, key(n), "", false)
			}
		}
		wantTree(t, s.r, s.root, s.list)
		wantWhole(t, s.r)
	}
}

// Example: Put of 11 pairs into 0, in any order: a root with two kids, leaves of 5 and 6; with one fewer it is a leaf.
func TestPutExample(t *testing.T) {
	for _, step := range []int{1, 10, 3, 7} {
		r := newRoom()
		root := uint32(0)
		for i := range 11 {
			root = wantPut(t, r, root, pair(step*i%11), true)
			if n := r.pages[root]; i < 10 && (!n.Leaf || len(n.Pairs) != i+1 || len(r.ids('w')) != 1) {
				t.Fatalf("behind %d: got %v", i, n)
			}
		}
		n := r.pages[root]
		if n.Leaf || len(n.Kids) != 2 {
			t.Fatalf("got %v", n)
		}
		left, right := r.pages[n.Kids[0]], r.pages[n.Kids[1]]
		if !slices.Equal(left.Pairs, pairs(0, 5, 1)) || !slices.Equal(right.Pairs, pairs(5, 6, 1)) {
			t.Errorf("got %v, %v", left, right)
		}
	}
}

// P9.3: as many pages are written and dropped as stand on the way, one more for each that is cut in two, and one more for a new root.
func TestPutCounts(t *testing.T) {
	for _, c := range []struct{ count, leaf, kids, wrote, dropped int }{
		{9, 10, 24, 1, 1},
		{10, 10, 24, 3, 1},
		{230, 10, 24, 3, 2},
		{240, 10, 24, 5, 2},
		{5760, 10, 24, 7, 3},
		{60, 5, 12, 2, 2},
		{120, 5, 12, 3, 3},
		{9990, 5, 12, 4, 4},
	} {
		r := newRoom()
		root := r.build(pairs(0, c.count, 2), c.leaf, c.kids, same)
		for _, n := range []int{-1 + 2*c.count, 1, c.count/2*2 + 1} {
			wantPut(t, r, root, pair(n), true)
			if wrote, dropped := len(r.ids('w')), len(r.ids('d')); wrote > c.wrote || dropped > c.dropped {
				t.Errorf("%v: %d written, %d dropped", c, wrote, dropped)
			}
		}
	}
}

// P9.3: of pages that are written and dropped no others are touched: a room that answers a node which it has by its own number keeps it.
func TestPutKnown(t *testing.T) {
	for _, count := range []int{1, 10, 30, 700} {
		r := newRoom()
		list := pairs(0, count, 1)
		root := r.build(list, 5, 12, same)
		known := knowing{r}
		for _, kv := range list {
			r.calls = nil
			if next, is, err := btree.Put(known, root, kv); next != root || is || err != api.OK || r.ids('d') != nil {
				t.Fatalf("Put(%v) of %d: got %d, %v, %d, dropped %v", kv, count, next, is, err, r.ids('d'))
			}
		}
		wantTree(t, r, root, list)
	}
}

// knowing is a room that writes no node twice.
type knowing struct{ *room }

func (k knowing) Write(n api.Node) (uint32, api.Errno) {
	for id, c := range k.copies {
		if sameNode(n, c) {
			return id, api.OK
		}
	}
	return k.room.Write(n)
}
