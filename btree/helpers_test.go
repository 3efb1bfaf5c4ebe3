package btree_test

import (
	"fmt"
	"maps"
	"slices"
	"strconv"
	"strings"
	"testing"

	"armoire/api"
	"armoire/btree"
	"armoire/page"
)

// call is one call of a room: r, w or d, and the page.
type call struct {
	kind byte
	id   uint32
}

// room holds pages. It hands out its own memory, with room to spare behind it, and spoils what it is handed once it has taken a copy: whoever changes the one or leans on the other is found out.
type room struct {
	pages  map[uint32]api.Node
	copies map[uint32]api.Node
	last   uint32
	calls  []call
	failAt int       // which call fails, counted from 1 on; 0: none
	with   api.Errno // what that call answers
	failed byte      // the kind of the call that failed
}

func newRoom() *room {
	return &room{pages: map[uint32]api.Node{}, copies: map[uint32]api.Node{}, with: -77}
}

func (r *room) clone() *room {
	c := newRoom()
	c.last = r.last
	for id, n := range r.copies {
		c.lay(id, n)
	}
	return c
}

// lay lays a node down as the page id.
func (r *room) lay(id uint32, n api.Node) {
	r.pages[id] = roomy(n)
	r.copies[id] = roomy(n)
}

// add lays a node down as a new page.
func (r *room) add(n api.Node) uint32 {
	r.last++
	r.lay(r.last, n)
	return r.last
}

// fails notes a call, and tells whether it is the one that fails.
func (r *room) fails(kind byte, id uint32) bool {
	if r.failed != 0 {
		panic("a call behind the one that failed")
	}
	if r.failAt == len(r.calls)+1 {
		r.failed = kind
		return true
	}
	r.calls = append(r.calls, call{kind, id})
	return false
}

func (r *room) Read(id uint32) (api.Node, api.Errno) {
	if r.fails('r', id) {
		return spoiled(), r.with
	}
	n, is := r.pages[id]
	if !is {
		return api.Node{}, api.ErrNone
	}
	return n, api.OK
}

func (r *room) Write(n api.Node) (uint32, api.Errno) {
	if r.fails('w', r.last+1) {
		return 4711, r.with
	}
	id := r.add(n)
	spoil(n)
	return id, api.OK
}

func (r *room) Drop(id uint32) api.Errno {
	if r.fails('d', id) {
		return r.with
	}
	return api.OK
}

// ids are the pages of the calls of a kind, rising.
func (r *room) ids(kind byte) []uint32 {
	var ids []uint32
	for _, c := range r.calls {
		if c.kind == kind {
			ids = append(ids, c.id)
		}
	}
	slices.Sort(ids)
	return ids
}

// roomy is a copy of n with room to spare behind its lists.
func roomy(n api.Node) api.Node {
	return api.Node{
		Leaf:  n.Leaf,
		Pairs: append(make([]api.KV, 0, len(n.Pairs)+3), n.Pairs...),
		Keys:  append(make([]string, 0, len(n.Keys)+3), n.Keys...),
		Kids:  append(make([]uint32, 0, len(n.Kids)+3), n.Kids...),
	}
}

// spoiled may not be.
func spoiled() api.Node {
	return api.Node{Leaf: true, Kids: []uint32{0}, Keys: []string{"spoiled"}}
}

func spoil(n api.Node) {
	for i := range n.Pairs[:cap(n.Pairs)] {
		n.Pairs[:cap(n.Pairs)][i] = api.KV{Key: "spoiled", Value: "spoiled"}
	}
	for i := range n.Keys[:cap(n.Keys)] {
		n.Keys[:cap(n.Keys)][i] = "spoiled"
	}
	for i := range n.Kids[:cap(n.Kids)] {
		n.Kids[:cap(n.Kids)][i] = 1<<32 - 1
	}
}

// wantWhole is R4: no page was changed, nor the room behind it.
func wantWhole(t *testing.T, r *room) {
	t.Helper()
	for id, n := range r.pages {
		c := r.copies[id]
		if !sameNode(n, c) || !slices.Equal(n.Pairs[:cap(n.Pairs)], c.Pairs[:cap(c.Pairs)]) || !slices.Equal(n.Keys[:cap(n.Keys)], c.Keys[:cap(c.Keys)]) || !slices.Equal(n.Kids[:cap(n.Kids)], c.Kids[:cap(c.Kids)]) {
			t.Fatalf("the page %d was changed: %v, it was %v", id, n, c)
		}
	}
}

func sameNode(a, b api.Node) bool {
	return a.Leaf == b.Leaf && slices.Equal(a.Pairs, b.Pairs) && slices.Equal(a.Keys, b.Keys) && slices.Equal(a.Kids, b.Kids)
}

// key is a key of MaxKey bytes; keys rise as numbers do.
func key(n int) string { return fmt.Sprintf("%0*d", api.MaxKey, n) }

func pair(n int) api.KV { return api.KV{Key: key(n), Value: fmt.Sprint("v", n)} }

// pairs are count of them, from the number from on, step apart.
func pairs(from, count, step int) []api.KV {
	var l []api.KV
	for i := range count {
		l = append(l, pair(from+i*step))
	}
	return l
}

func leaf(pairs []api.KV) api.Node { return api.Node{Leaf: true, Pairs: pairs} }

// build lays down a tree of the pairs whose leaves have size pairs each, and whose nodes have kids kids each; the last two of a level share what is left, so that a leaf or node may have more or fewer than that. What parts two kids is the key below the right one's first, by part.
func (r *room) build(list []api.KV, size, kids int, part func(first string) string) uint32 {
	if len(list) == 0 {
		return 0
	}
	var ids []uint32
	var firsts []string
	for _, n := range cut(len(list), size, api.LeafMax) {
		ids = append(ids, r.add(leaf(list[:n])))
		firsts = append(firsts, list[0].Key)
		list = list[n:]
	}
	for len(ids) > 1 {
		var ups []uint32
		var upFirsts []string
		for _, n := range cut(len(ids), kids, api.KidsMax) {
			up := api.Node{Kids: ids[:n]}
			for _, first := range firsts[1:n] {
				up.Keys = append(up.Keys, part(first))
			}
			ups = append(ups, r.add(up))
			upFirsts = append(upFirsts, firsts[0])
			ids, firsts = ids[n:], firsts[n:]
		}
		ids, firsts = ups, upFirsts
	}
	return ids[0]
}

// cut cuts n into parts of size, the last one of which may have up to most, or is shared with the one ahead of it.
func cut(n, size, most int) []int {
	var l []int
	for n >= 2*size {
		l = append(l, size)
		n -= size
	}
	if n <= most {
		return append(l, n)
	}
	return append(l, n/2, n-n/2)
}

// same parts two kids by the right one's first key.
func same(first string) string { return first }

// lower parts them by a key of its own just below that.
func lower(first string) string {
	n, err := strconv.Atoi(first)
	if err != nil {
		panic(err)
	}
	return key(n - 1)
}

// seen is what stands in a tree, found by the document's words alone.
type seen struct {
	pairs []api.KV
	ids   []uint32
	sound bool
}

// look goes through a tree of pages that are all there.
func (r *room) look(root uint32) seen {
	s := seen{sound: true}
	if root == 0 {
		return s
	}
	reached := map[uint32]int{}
	depths := map[int]int{}
	var keysBelow func(id uint32, deep int) []string
	keysBelow = func(id uint32, deep int) []string {
		n := r.copies[id]
		reached[id]++
		if reached[id] > 1 {
			s.sound = false
			return nil
		}
		s.sound = s.sound && page.CheckNode(n) == api.OK
		var below []string
		if n.Leaf {
			depths[deep]++
			s.sound = s.sound && (deep == 0 || len(n.Pairs) >= 5)
			for _, kv := range n.Pairs {
				below = append(below, kv.Key)
			}
			s.pairs = append(s.pairs, n.Pairs...)
			return below
		}
		s.sound = s.sound && (deep == 0 || len(n.Kids) >= 12)
		for i, kid := range n.Kids {
			keys := keysBelow(kid, deep+1)
			for _, k := range keys {
				s.sound = s.sound && (i == 0 || k >= n.Keys[i-1]) && (i >= len(n.Keys) || k < n.Keys[i])
			}
			below = append(below, keys...)
		}
		return below
	}
	keysBelow(root, 0)
	s.sound = s.sound && len(depths) == 1
	s.ids = slices.Sorted(maps.Keys(reached))
	return s
}

// wantTree looks whether a tree is sound, has just these pairs, and reaches as few pages as it must; and whether Check, Reach and From say so.
func wantTree(t *testing.T, r *room, root uint32, want []api.KV) {
	t.Helper()
	s := r.look(root)
	if !s.sound || !slices.Equal(s.pairs, want) {
		t.Fatalf("the tree %d: sound %v, %d pairs, want %d", root, s.sound, len(s.pairs), len(want))
	}
	if len(s.ids) > len(want)/4+4 || (root == 0) != (len(want) == 0) {
		t.Fatalf("the tree %d of %d pairs reaches %d pages", root, len(want), len(s.ids))
	}
	if n, err := btree.Check(r, root); n != len(want) || err != api.OK {
		t.Fatalf("Check(%d): got %d, %d, want %d", root, n, err, len(want))
	}
	if ids, err := btree.Reach(r, root); err != api.OK || !slices.Equal(ids, s.ids) {
		t.Fatalf("Reach(%d): got %v, %d, want %v", root, ids, err, s.ids)
	}
	wantFrom(t, r, root, "", want)
}

// wantFrom looks what From tells, all with OK.
func wantFrom(t *testing.T, r *room, root uint32, from string, want []api.KV) {
	t.Helper()
	var got []api.KV
	for kv, err := range btree.From(r, root, from) {
		if err != api.OK {
			t.Fatalf("From(%d, %q): got the error %d", root, from, err)
		}
		got = append(got, kv)
	}
	if !slices.Equal(got, want) {
		t.Fatalf("From(%d, %q): got %v, want %v", root, from, got, want)
	}
}

func wantGet(t *testing.T, r *room, root uint32, k, value string, is bool) {
	t.Helper()
	if v, got, err := btree.Get(r, root, k); v != value || got != is || err != api.OK {
		t.Fatalf("Get(%d, %q): got %q, %v, %d, want %q, %v", root, k, v, got, err, value, is)
	}
}

// wantPut puts a pair, and looks at what became of pages and pairs.
func wantPut(t *testing.T, r *room, root uint32, kv api.KV, fresh bool) uint32 {
	t.Helper()
	was := r.look(root)
	r.calls = nil
	next, is, err := btree.Put(r, root, kv)
	if next == 0 || is != fresh || err != api.OK {
		t.Fatalf("Put(%d, %v): got %d, %v, %d, want %v", root, kv, next, is, err, fresh)
	}
	wantChange(t, r, was, next)
	at, there := slices.BinarySearchFunc(was.pairs, kv.Key, func(a api.KV, k string) int { return strings.Compare(a.Key, k) })
	if there == fresh {
		t.Fatalf("Put(%d, %v): whether it was there is not what the test thinks", root, kv)
	}
	behind := at
	if there {
		behind++
	}
	wantTree(t, r, next, slices.Concat(was.pairs[:at], []api.KV{kv}, was.pairs[behind:]))
	return next
}

// wantDel deletes a key that is there.
func wantDel(t *testing.T, r *room, root uint32, k string) uint32 {
	t.Helper()
	was := r.look(root)
	r.calls = nil
	next, is, err := btree.Del(r, root, k)
	if !is || err != api.OK {
		t.Fatalf("Del(%d, %q): got %d, %v, %d", root, k, next, is, err)
	}
	wantChange(t, r, was, next)
	want := slices.DeleteFunc(slices.Clone(was.pairs), func(kv api.KV) bool { return kv.Key == k })
	if len(want) != len(was.pairs)-1 {
		t.Fatalf("Del(%d, %q): it was not there", root, k)
	}
	wantTree(t, r, next, want)
	return next
}

// wantNoDel deletes a key that is not there.
func wantNoDel(t *testing.T, r *room, root uint32, k string) {
	t.Helper()
	r.calls = nil
	next, is, err := btree.Del(r, root, k)
	if next != root || is || err != api.OK || r.ids('w') != nil || r.ids('d') != nil {
		t.Fatalf("Del(%d, %q) of none: got %d, %v, %d, calls %v", root, k, next, is, err, r.calls)
	}
}

// wantChange is P9.3, of the calls since the elder tree was looked at.
func wantChange(t *testing.T, r *room, was seen, next uint32) {
	t.Helper()
	is := r.look(next)
	wrote, dropped := r.ids('w'), r.ids('d')
	without := func(a, b []uint32) []uint32 {
		return slices.DeleteFunc(slices.Clone(a), func(id uint32) bool {
			_, found := slices.BinarySearch(b, id)
			return found
		})
	}
	if want := without(was.ids, is.ids); !slices.Equal(dropped, want) {
		t.Fatalf("dropped: %v, want %v", dropped, want)
	}
	if left := without(wrote, is.ids); len(left) > 0 {
		t.Fatalf("written, but not reached: %v", left)
	}
	if len(was.pairs) <= 10000 && (len(wrote) > 9 || len(dropped) > 9) {
		t.Fatalf("%d pairs: %d pages written, %d dropped", len(was.pairs), len(wrote), len(dropped))
	}
}
