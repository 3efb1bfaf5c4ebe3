package btree_test

import (
	"maps"
	"math/rand"
	"slices"
	"testing"

	"armoire/api"
	"armoire/btree"
	"armoire/disk"
	"armoire/pool"
)

// order is a row of the numbers below n.
type order struct {
	name string
	list []int
}

// orders are rising, falling and mixed.
func orders(n int) []order {
	rising := make([]int, n)
	for i := range rising {
		rising[i] = i
	}
	falling := slices.Clone(rising)
	slices.Reverse(falling)
	ends := slices.Clone(rising)
	for i := range ends {
		if ends[i] = i / 2; i%2 > 0 {
			ends[i] = n - 1 - i/2
		}
	}
	return []order{{"rising", rising}, {"falling", falling}, {"ends", ends}, {"mixed", rand.New(rand.NewSource(int64(n))).Perm(n)}}
}

// elder is a tree, and the pairs it has for ever.
type elder struct {
	root uint32
	list []api.KV
}

// P9.2, P9.3, P9.6: Put in each order till the tree has several levels, Del in each order back to 0; sound behind each, and all elder trees have what they had.
func TestOrders(t *testing.T) {
	const n = 330
	for _, puts := range orders(n) {
		for _, dels := range orders(n) {
			r := newRoom()
			root := uint32(0)
			var elders []elder
			for i, k := range puts.list {
				root = wantPut(t, r, root, pair(k), true)
				if i%15 == 0 {
					elders = append(elders, elder{root, r.look(root).pairs})
				}
			}
			wantTree(t, r, root, pairs(0, n, 1))
			for i, k := range dels.list {
				root = wantDel(t, r, root, key(k))
				if i%15 == 0 {
					elders = append(elders, elder{root, r.look(root).pairs})
				}
			}
			if root != 0 {
				t.Errorf("%s, %s: the tree without pairs: got %d", puts.name, dels.name, root)
			}
			for _, e := range elders {
				wantTree(t, r, e.root, e.list)
			}
			wantWhole(t, r)
		}
	}
}

// P9.3, P9.6: 9 pages at the most are written and dropped, up to 10000 pairs, in each order, up and back to 0.
func TestMany(t *testing.T) {
	const n = 10000
	for _, o := range orders(n) {
		r := newRoom()
		root := uint32(0)
		step := func(i int, do func(root uint32) (uint32, bool, api.Errno)) {
			t.Helper()
			var was seen
			full := i%997 == 0
			if full {
				was = r.look(root)
			}
			r.calls = nil
			next, is, err := do(root)
			wrote, dropped := len(r.ids('w')), len(r.ids('d'))
			if !is || err != api.OK || wrote > 9 || dropped > 9 {
				t.Fatalf("%s: %d: got %v, %d, %d written, %d dropped", o.name, i, is, err, wrote, dropped)
			}
			if full {
				wantChange(t, r, was, next)
				wantTree(t, r, next, r.look(next).pairs)
			}
			root = next
		}
		for i, k := range o.list {
			step(i, func(root uint32) (uint32, bool, api.Errno) { return btree.Put(r, root, pair(k)) })
		}
		all := root
		wantTree(t, r, all, pairs(0, n, 1))
		for i, k := range o.list {
			step(i, func(root uint32) (uint32, bool, api.Errno) { return btree.Del(r, root, key(k)) })
		}
		if root != 0 {
			t.Errorf("%s: the tree without pairs: got %d", o.name, root)
		}
		wantTree(t, r, all, pairs(0, n, 1))
	}
}

// P9.1, P9.2: long rows of Puts, Dels and Gets of keys, some of them there, on trees that grow and shrink.
func TestRows(t *testing.T) {
	for seed := range int64(6) {
		rnd := rand.New(rand.NewSource(seed))
		r := newRoom()
		root := uint32(0)
		model := map[string]string{}
		for i := range 1200 {
			k := key(rnd.Intn(400))
			v, there := model[k]
			wantGet(t, r, root, k, v, there)
			switch grows := i/200%2 == 0; {
			case grows == (rnd.Intn(4) > 0):
				kv := api.KV{Key: k, Value: pair(i).Value}
				root = wantPut(t, r, root, kv, !there)
				model[k] = kv.Value
			case there:
				root = wantDel(t, r, root, k)
				delete(model, k)
			default:
				wantNoDel(t, r, root, k)
			}
		}
		var want []api.KV
		for _, k := range slices.Sorted(maps.Keys(model)) {
			want = append(want, api.KV{Key: k, Value: model[k]})
		}
		wantTree(t, r, root, want)
		wantWhole(t, r)
	}
}

// R5: two rooms of the same pages answer the same.
func TestOneAnswer(t *testing.T) {
	for _, s := range some() {
		a, b := s.r.clone(), s.r.clone()
		for _, kv := range []api.KV{s.list[0], s.list[len(s.list)-1], pair(105)} {
			one, _, _ := btree.Put(a, s.root, kv)
			two, _, _ := btree.Put(b, s.root, kv)
			if one != two || !slices.Equal(a.calls, b.calls) {
				t.Errorf("%s: Put(%v): got %d and %d, by %v and %v", s.name, kv, one, two, a.calls, b.calls)
			}
		}
	}
}

// P9.3: on a pool, what is taken is what the tree reaches, whatever was put and deleted; what waits is the elder tree's.
func TestOnPool(t *testing.T) {
	d, err := disk.New(512)
	if err != api.OK {
		t.Fatal(err)
	}
	p, err := pool.New(d, 66, nil)
	if err != api.OK {
		t.Fatal(err)
	}
	rnd := rand.New(rand.NewSource(66))
	root, settled := uint32(0), uint32(0)
	for i := range 1200 {
		k := rnd.Intn(300)
		var e api.Errno
		if rnd.Intn(2) == 0 {
			root, _, e = btree.Put(p, root, pair(k))
		} else {
			root, _, e = btree.Del(p, root, key(k))
		}
		if e != api.OK {
			t.Fatalf("%d: got %d", i, e)
		}
		reached, e := btree.Reach(p, root)
		taken, waiting, _ := p.Space()
		if e != api.OK || !sameIDs(taken, reached) {
			t.Fatalf("%d: %v are reached, %v taken, %d", i, reached, taken, e)
		}
		before, e := btree.Reach(p, settled)
		if e != api.OK || !sameIDs(waiting, slices.DeleteFunc(before, func(id uint32) bool { return slices.Contains(reached, id) })) {
			t.Fatalf("%d: %v wait, %d", i, waiting, e)
		}
		if i%20 == 19 {
			settled = root
			p.Settle()
			p.Sweep(nil)
		}
	}
}

func sameIDs(blocks []int, ids []uint32) bool {
	return slices.EqualFunc(blocks, ids, func(b int, id uint32) bool { return b == int(id) })
}
