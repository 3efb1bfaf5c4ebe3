package btree_test

import (
	"strconv"
	"testing"

	"armoire/api"
	"armoire/btree"
)

// levels of the deepest sound tree that there are numbers of pages for: a root with two kids, KidsMin kids of each other node, LeafMin pairs of each leaf.
const levels = 10

// deepTree has such a tree, of which it makes each page when it is read; beside that it is a room. The page of the node j of a level has the number of nodes above that level, and j + 1.
type deepTree struct{ *room }

// width is how many nodes a level has, 0 being the root's, reach how many pairs stand below each.
func width(level int) int {
	if level == 0 {
		return 1
	}
	n := 2
	for range level - 1 {
		n *= api.KidsMin
	}
	return n
}

func reach(level int) int { return width(levels-1) * api.LeafMin / width(level) }

func (d deepTree) Read(id uint32) (api.Node, api.Errno) {
	if n, err := d.room.Read(id); err == api.OK {
		return n, api.OK
	}
	level, j := 0, int(id)-1
	for j >= width(level) {
		j -= width(level)
		level++
	}
	if level == levels-1 {
		return leaf(pairs(j*api.LeafMin, api.LeafMin, 1)), api.OK
	}
	next := int(id) - j + width(level) // of the first node of the next level
	count := width(level+1) / width(level)
	var n api.Node
	for i := range count {
		kid := j*count + i
		n.Kids = append(n.Kids, uint32(next+kid))
		if i > 0 {
			n.Keys = append(n.Keys, key(kid*reach(level+1)))
		}
	}
	return n, api.OK
}

// P9.1, P9.2: a sound tree may be as deep as there are numbers of pages.
func TestDeepest(t *testing.T) {
	all := reach(0)
	for _, n := range []int{0, 1, 5, 59, 60, all/2 - 1, all / 2, all - 1} {
		r := newRoom()
		r.last = 1<<32 - 1000
		d := deepTree{r}
		if v, is, err := btree.Get(d, 1, key(n)); v != pair(n).Value || !is || err != api.OK {
			t.Errorf("Get(%d): got %q, %v, %d", n, v, is, err)
		}
		wantSome(t, d, 1, n, n)
		next, is, err := btree.Del(d, 1, key(n))
		if !is || err != api.OK {
			t.Fatalf("Del(%d): got %v, %d", n, is, err)
		}
		wantSome(t, d, next, n, n+1)
		next, is, err = btree.Put(d, 1, api.KV{Key: key(n), Value: strconv.Itoa(n)})
		if is || err != api.OK {
			t.Fatalf("Put(%d): got %v, %d", n, is, err)
		}
		if v, is, err := btree.Get(d, next, key(n)); v != strconv.Itoa(n) || !is || err != api.OK {
			t.Errorf("Get(%d) of the new one: got %q, %v, %d", n, v, is, err)
		}
	}
}

// wantSome looks at the first few pairs from the number from on: want is the first one of them.
func wantSome(t *testing.T, p btree.Pages, root uint32, from, want int) {
	t.Helper()
	for kv, err := range btree.From(p, root, key(from)) {
		if err != api.OK || kv != pair(want) {
			t.Fatalf("From(%d): got %v, %d, want %v", from, kv, err, pair(want))
		}
		if want++; want > from+200 {
			break
		}
	}
}
