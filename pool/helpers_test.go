package pool_test

import (
	"slices"
	"strconv"
	"strings"
	"testing"

	"armoire/api"
	"armoire/disk"
	"armoire/pool"
)

// farIDs are numbers of no pool's pages.
var farIDs = []uint32{0, 1, 1024, 1025, 1 << 16, 1<<31 - 1, 1 << 31, 1<<32 - 2, 1<<32 - 1}

// key is a key that begins with s, and has bytes 0 behind it.
func key(s string) string { return s + strings.Repeat("\x00", api.MaxKey-len(s)) }

// leaf is a leaf with one pair.
func leaf(s string) api.Node {
	return api.Node{Leaf: true, Pairs: []api.KV{{Key: key(s), Value: s}}}
}

// numbered is one of many nodes, some of them leaves, no two of which are the same.
func numbered(i int) api.Node {
	if i%3 > 0 {
		return leaf(strconv.Itoa(i))
	}
	n := api.Node{Kids: []uint32{uint32(i) + 1}}
	for k := range i%23 + 1 {
		n.Keys = append(n.Keys, key(string(rune('a'+k))))
		n.Kids = append(n.Kids, uint32(k)+7)
	}
	return n
}

// badNodes may not be.
func badNodes() []api.Node {
	many := api.Node{Leaf: true}
	for i := range api.LeafMax + 1 {
		many.Pairs = append(many.Pairs, api.KV{Key: key(string(rune('a' + i)))})
	}
	wide := leaf("a")
	wide.Pairs[0].Value = strings.Repeat("x", api.MaxValue+1)
	return []api.Node{
		{}, {Leaf: true}, {Kids: []uint32{5}}, {Kids: []uint32{5, 6}}, {Keys: []string{key("a")}, Kids: []uint32{5, 0}}, many, wide,
		{Leaf: true, Pairs: []api.KV{{Key: "a"}}}, {Leaf: true, Pairs: []api.KV{{Key: key("a")}}, Kids: []uint32{1}},
		{Leaf: true, Pairs: []api.KV{{Key: key("b")}, {Key: key("a")}}},
	}
}

// sameNode takes a nil list and an empty one for the same.
func sameNode(a, b api.Node) bool {
	return a.Leaf == b.Leaf && slices.Equal(a.Pairs, b.Pairs) && slices.Equal(a.Keys, b.Keys) && slices.Equal(a.Kids, b.Kids)
}

func newDisk(t *testing.T, blocks int) *disk.Disk {
	t.Helper()
	d, err := disk.New(blocks)
	if err != api.OK {
		t.Fatalf("disk.New(%d): got %d", blocks, err)
	}
	return d
}

// newPool is a pool with a disk of its own.
func newPool(t *testing.T, blocks, from int, taken ...int) (*disk.Disk, *pool.Pool) {
	t.Helper()
	d := newDisk(t, blocks)
	return d, mustNew(t, d, from, taken...)
}

func mustNew(t *testing.T, d *disk.Disk, from int, taken ...int) *pool.Pool {
	t.Helper()
	p, err := pool.New(d, from, taken)
	if p == nil || err != api.OK {
		t.Fatalf("New(%d, %v): got %v, %d", from, taken, p, err)
	}
	return p
}

func wantNewErr(t *testing.T, d *disk.Disk, from int, taken ...int) {
	t.Helper()
	if p, err := pool.New(d, from, taken); p != nil || err != api.ErrArg {
		t.Errorf("New(%d, %v): got %v, %d, want ErrArg", from, taken, p, err)
	}
}

func wantWrite(t *testing.T, p *pool.Pool, n api.Node, want uint32) {
	t.Helper()
	if id, err := p.Write(n); id != want || err != api.OK {
		t.Fatalf("Write: got %d, %d, want %d", id, err, want)
	}
	wantRead(t, p, want, n)
}

// wantWriteErr looks too that nothing has changed.
func wantWriteErr(t *testing.T, p *pool.Pool, n api.Node, want api.Errno) {
	t.Helper()
	taken, waiting, free := p.Space()
	if id, err := p.Write(n); id != 0 || err != want {
		t.Errorf("Write: got %d, %d, want 0, %d", id, err, want)
	}
	wantSpace(t, p, taken, waiting, free)
}

func wantRead(t *testing.T, p *pool.Pool, id uint32, want api.Node) {
	t.Helper()
	if n, err := p.Read(id); err != api.OK || !sameNode(n, want) {
		t.Errorf("Read(%d): got %v, %d, want %v", id, n, err, want)
	}
}

func wantReadErr(t *testing.T, p *pool.Pool, id uint32, want api.Errno) {
	t.Helper()
	if n, err := p.Read(id); err != want || !sameNode(n, api.Node{}) {
		t.Errorf("Read(%d): got %v, %d, want none, %d", id, n, err, want)
	}
}

func wantDrop(t *testing.T, p *pool.Pool, id uint32, want api.Errno) {
	t.Helper()
	if err := p.Drop(id); err != want {
		t.Errorf("Drop(%d): got %d, want %d", id, err, want)
	}
}

func wantSweep(t *testing.T, p *pool.Pool, want int, keep ...uint32) {
	t.Helper()
	if n := p.Sweep(keep); n != want {
		t.Errorf("Sweep(%v): got %d, want %d", keep, n, want)
	}
}

func wantSpace(t *testing.T, p *pool.Pool, taken, waiting, free []int) {
	t.Helper()
	a, b, c := p.Space()
	if !slices.Equal(a, taken) || !slices.Equal(b, waiting) || !slices.Equal(c, free) {
		t.Fatalf("Space: got %v, %v, %v, want %v, %v, %v", a, b, c, taken, waiting, free)
	}
}

// list is short for a list of blocks.
func list(blocks ...int) []int { return blocks }

// span are the numbers from from on up to to.
func span(from, to int) []int {
	var l []int
	for i := from; i < to; i++ {
		l = append(l, i)
	}
	return l
}
