package pool_test

import (
	"slices"
	"strings"
	"testing"

	"armoire/api"
	"armoire/page"
)

// P8.3: the document's own example.
func TestExample(t *testing.T) {
	_, p := newPool(t, 64, 60)
	wantWrite(t, p, leaf("a"), 60)
	wantWrite(t, p, leaf("b"), 61)
	p.Settle()
	wantWrite(t, p, leaf("c"), 62)
	wantDrop(t, p, 60, api.OK)
	wantSpace(t, p, list(61, 62), list(60), list(63))
	wantDrop(t, p, 62, api.OK)
	wantSpace(t, p, list(61), list(60), list(62, 63))
	wantWrite(t, p, leaf("d"), 62)
	p.Undo()
	wantSpace(t, p, list(60, 61), nil, list(62, 63))
	wantRead(t, p, 60, leaf("a"))
	wantRead(t, p, 61, leaf("b"))
	wantReadErr(t, p, 62, api.ErrNone)
}

// P8.2: what is free or none of the pool's has no page, whatever stands there.
func TestReadOfNone(t *testing.T) {
	d := newDisk(t, 64)
	b, _ := page.EncodeNode(leaf("a"))
	for i := range d.Blocks() {
		d.Write(i, b)
	}
	p := mustNew(t, d, 60, 61)
	for _, id := range slices.Concat(farIDs, []uint32{59, 60, 62, 63, 64, 65}) {
		wantReadErr(t, p, id, api.ErrNone)
	}
	wantRead(t, p, 61, leaf("a"))
	d.Cut("")
	for _, id := range slices.Concat(farIDs, []uint32{59, 60, 62, 63, 64, 65}) {
		wantReadErr(t, p, id, api.ErrNone)
	}
	wantReadErr(t, p, 61, api.ErrDown)
}

// P8.2: DecodeNode's errors of what stands there; be it taken or waiting.
func TestReadOfNoNode(t *testing.T) {
	d, p := newPool(t, 64, 60, 60, 61, 62, 63)
	head := page.EncodeHead(api.Head{Root: 7})
	node, _ := page.EncodeNode(leaf("a"))
	torn := slices.Clone(node)
	torn[200] ^= 1
	d.Write(61, head)
	d.Write(62, torn)
	d.Write(63, node)
	for range 2 {
		wantReadErr(t, p, 60, api.ErrSum)
		wantReadErr(t, p, 61, api.ErrForm)
		wantReadErr(t, p, 62, api.ErrSum)
		wantRead(t, p, 63, leaf("a"))
		for id := uint32(60); id < 64; id++ {
			p.Drop(id)
		}
	}
	d.Cut("")
	for id := uint32(60); id < 64; id++ {
		wantReadErr(t, p, id, api.ErrDown)
	}
}

// P8.2: a page that waits is read as it was; when it is free it is none.
func TestReadOfWhatWaits(t *testing.T) {
	d, p := newPool(t, 64, 60)
	wantWrite(t, p, leaf("a"), 60)
	p.Settle()
	wantDrop(t, p, 60, api.OK)
	wantRead(t, p, 60, leaf("a"))
	wantWrite(t, p, leaf("b"), 61)
	wantRead(t, p, 60, leaf("a"))
	d.Barrier()
	d.Cut("")
	wantReadErr(t, p, 60, api.ErrDown)
	d.Power()
	wantRead(t, p, 60, leaf("a"))
	wantSweep(t, p, 1)
	wantReadErr(t, p, 60, api.ErrNone)
}

// P8.2: the block of a page has the node's bytes, and no other block is written.
func TestWriteWritesOneBlock(t *testing.T) {
	for i := range 60 {
		d, p := newPool(t, 64, 60, 60)
		n := numbered(i)
		wantWrite(t, p, n, 61)
		want, _ := page.EncodeNode(n)
		got, err := d.Read(61)
		if err != api.OK || string(got) != string(want) || d.Writes() != 1 || !slices.Equal(d.Pending(), list(61)) {
			t.Errorf("%d: Write: got %d writes, %v pending, %d", i, d.Writes(), d.Pending(), err)
		}
	}
}

// P8.2: the least block that is free, also where some between were dropped.
func TestWriteTakesTheLeast(t *testing.T) {
	_, p := newPool(t, 64, 56, 57, 60)
	for i, want := range []uint32{56, 58, 59, 61, 62, 63} {
		wantWrite(t, p, numbered(i), want)
	}
	wantWriteErr(t, p, leaf("full"), api.ErrFull)
	for _, id := range []uint32{62, 58, 60, 61} {
		wantDrop(t, p, id, api.OK)
	}
	wantSpace(t, p, list(56, 57, 59, 63), list(60), list(58, 61, 62))
	wantWrite(t, p, leaf("x"), 58)
	wantWrite(t, p, leaf("y"), 61)
	wantWrite(t, p, leaf("z"), 62)
	wantWriteErr(t, p, leaf("full"), api.ErrFull)
	wantSweep(t, p, 1)
	wantWrite(t, p, leaf("last"), 60)
	wantWriteErr(t, p, leaf("full"), api.ErrFull)
}

// P8.2: ErrPage comes ahead of ErrFull, ErrFull ahead of ErrDown.
func TestOrderOfWriteErrors(t *testing.T) {
	d, p := newPool(t, 64, 62)
	for _, n := range badNodes() {
		wantWriteErr(t, p, n, api.ErrPage)
	}
	wantWrite(t, p, leaf("a"), 62)
	wantWrite(t, p, leaf("b"), 63)
	for _, n := range badNodes() {
		wantWriteErr(t, p, n, api.ErrPage)
	}
	wantWriteErr(t, p, leaf("c"), api.ErrFull)
	if d.Writes() != 2 {
		t.Errorf("%d writes were done", d.Writes())
	}
	d.Cut("")
	for _, n := range badNodes() {
		wantWriteErr(t, p, n, api.ErrPage)
	}
	wantWriteErr(t, p, leaf("c"), api.ErrFull)
	wantDrop(t, p, 63, api.OK)
	for _, n := range badNodes() {
		wantWriteErr(t, p, n, api.ErrPage)
	}
	wantWriteErr(t, p, leaf("c"), api.ErrDown)
	d.Power()
	wantWrite(t, p, leaf("c"), 63)
}

// P8.2: a Write at which the power is cut takes nothing.
func TestWriteIsCut(t *testing.T) {
	for writes := range 4 {
		d, p := newPool(t, 64, 60)
		d.Arm(writes, strings.Repeat("\x01", 4))
		for i := range writes {
			wantWrite(t, p, numbered(i), uint32(60+i))
		}
		wantWriteErr(t, p, leaf("cut"), api.ErrDown)
		if d.On() {
			t.Errorf("the power is on")
		}
		wantSpace(t, p, span(60, 60+writes), nil, span(60+writes, 64))
		d.Power()
		for i := range writes {
			wantRead(t, p, uint32(60+i), numbered(i))
		}
		wantReadErr(t, p, uint32(60+writes), api.ErrNone)
		wantWrite(t, p, leaf("again"), uint32(60+writes))
		p.Undo()
		wantSpace(t, p, nil, nil, span(60, 64))
	}
}

// P8.2: Read tells what stands there, be it that the power was cut ahead of a Barrier.
func TestReadOfWhatWasLost(t *testing.T) {
	d, p := newPool(t, 64, 60)
	wantWrite(t, p, leaf("a"), 60)
	d.Barrier()
	wantWrite(t, p, leaf("b"), 61)
	wantWrite(t, p, leaf("c"), 62)
	d.Cut("\x00\x01")
	d.Power()
	wantRead(t, p, 60, leaf("a"))
	wantReadErr(t, p, 61, api.ErrSum)
	wantRead(t, p, 62, leaf("c"))
}

// R4: a node that is written is neither changed nor kept; one that is read is new.
func TestNodesAndMemory(t *testing.T) {
	_, p := newPool(t, 64, 60)
	n := numbered(9)
	keys := append(slices.Clone(n.Keys), "spare")
	kids := append(slices.Clone(n.Kids), 99)
	n.Keys, n.Kids = keys[:len(keys)-1], kids[:len(kids)-1]
	wantWrite(t, p, n, 60)
	if !sameNode(n, numbered(9)) || keys[len(keys)-1] != "spare" || kids[len(kids)-1] != 99 {
		t.Errorf("the node was changed")
	}
	wantWrite(t, p, leaf("a"), 61)
	for i := range n.Kids {
		n.Kids[i] = 5
	}
	n.Keys[0] = "spoilt"
	for range 2 {
		for _, id := range []uint32{60, 61} {
			got, _ := p.Read(id)
			got.Keys = append(got.Keys, "spoilt")
			got.Kids = append(got.Kids, 1, 2)
			got.Pairs = append(got.Pairs, api.KV{})
			got.Keys[0], got.Kids[0], got.Pairs[0] = "spoilt", 3, api.KV{Key: "spoilt"}
		}
		wantRead(t, p, 60, numbered(9))
		wantRead(t, p, 61, leaf("a"))
	}
}

// P8.2: two pools on one disk, side by side, have each its own blocks.
func TestTwoPools(t *testing.T) {
	d := newDisk(t, 64)
	a, b := mustNew(t, d, 60, 62, 63), mustNew(t, d, 62)
	wantWrite(t, a, leaf("a"), 60)
	wantWrite(t, b, leaf("b"), 62)
	wantReadErr(t, b, 60, api.ErrNone)
	wantRead(t, a, 60, leaf("a"))
	wantRead(t, a, 62, leaf("b"))
	b.Undo()
	wantSpace(t, a, list(60, 62, 63), nil, list(61))
	wantSpace(t, b, nil, nil, list(62, 63))
}

// R5: what a pool does hangs on no disk's clone.
func TestCloneOfTheDisk(t *testing.T) {
	d, p := newPool(t, 64, 60)
	wantWrite(t, p, leaf("a"), 60)
	c := d.Clone()
	q := mustNew(t, c, 60, 60)
	wantRead(t, q, 60, leaf("a"))
	c.Cut("")
	wantReadErr(t, q, 60, api.ErrDown)
	wantRead(t, p, 60, leaf("a"))
}
