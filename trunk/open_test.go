package trunk_test

import (
	"fmt"
	"math/rand"
	"testing"

	"armoire/api"
	"armoire/disk"
	"armoire/page"
	"armoire/trunk"
)

// P11.2: wrong disks, ahead of a power that is off.
func TestOpenArg(t *testing.T) {
	wantOpenErr(t, nil, api.ErrArg)
	for _, blocks := range []int{1, 66, 191} {
		d := newDisk(t, blocks)
		wantOpenErr(t, d, api.ErrArg)
		d.Cut("")
		wantOpenErr(t, d, api.ErrArg)
	}
}

// P11.2: a disk that is off, and one with neither head.
func TestOpenNone(t *testing.T) {
	for _, blocks := range []int{192, 1024} {
		d := newDisk(t, blocks)
		wantOpenErr(t, d, api.ErrForm)
		d.Cut("")
		wantOpenErr(t, d, api.ErrDown)
	}
	d, x := newTrunk(t, 192, pairs(2)...)
	mustReclaim(t, x)
	d.Cut("")
	wantOpenErr(t, d, api.ErrDown)
	d.Power()
	for block := range 2 {
		d.Write(block, make([]byte, api.Block))
	}
	wantOpenErr(t, d, api.ErrForm)
}

// wipe overwrites a block, with its first byte another one or with nothing.
func wipe(d *disk.Disk, block int, wholly bool) {
	b, _ := d.Read(block)
	b[0]++
	if wholly {
		b = make([]byte, api.Block)
	}
	d.Write(block, b)
}

// headSeq is the number of the head that stands in a block, if one does.
func headSeq(d *disk.Disk, block int) (uint64, bool) {
	b, _ := d.Read(block)
	h, err := page.DecodeHead(b)
	return h.Seq, err == api.OK
}

// P11.2: with one head alone: it is the last one that counts, behind any number of Reclaims.
func TestOpenOneHead(t *testing.T) {
	for reclaims := range 4 {
		d, x := newTrunk(t, 192, pairs(2)...)
		for i := range reclaims {
			mustCommit(t, x, 3, put(5, fmt.Sprint(i)))
			mustReclaim(t, x)
		}
		mustCommit(t, x, 4, put(6, "last"))
		want := look(t, x)
		elder := 0
		first, isFirst := headSeq(d, 0)
		second, isSecond := headSeq(d, 1)
		if isFirst && (!isSecond || first > second) {
			elder = 1
		}
		for _, wholly := range []bool{true, false} {
			c := d.Clone()
			wipe(c, elder, wholly)
			wantSeen(t, mustOpen(t, c), want)
			wipe(c, 0, wholly)
			wipe(c, 1, wholly)
			wantOpenErr(t, c, api.ErrForm)
		}
	}
}

// P11.2: opened again and again it is the same trunk, whatever is done between.
func TestOpenAgain(t *testing.T) {
	d, x := newTrunk(t, 192)
	for i := range 40 {
		want := look(t, x)
		if i%5 == 0 {
			cutAndPower(d, "\x01")
		}
		x = mustOpen(t, d)
		wantSeen(t, x, want)
		if s := mustSpace(t, x); len(s.Waiting) > 0 {
			t.Fatalf("there wait %v", s.Waiting)
		}
		if i%3 > 0 {
			mustCommit(t, x, uint32(i), put(i, "v"), gone(i-4))
		}
		if i%7 == 0 {
			mustReclaim(t, x)
		}
	}
}

// P11.3: behind Open nothing was changed, so that there is the room of the items alone.
func TestOpenRoom(t *testing.T) {
	d, x := newTrunk(t, 192, pairs(1)...)
	mustCommit(t, x, 2, puts(0, 10, "w")...)
	wantCommitErr(t, x, puts(0, 2, "w"), api.ErrFull)
	x = mustOpen(t, d)
	mustCommit(t, x, 2, puts(0, 10, "w")...)
}

// R1: a disk that was written by others is opened or refused, and what was opened answers.
func TestOpenWild(t *testing.T) {
	r := rand.New(rand.NewSource(5))
	d, x := newTrunk(t, 192, pairs(10)...)
	mustCommit(t, x, 3, puts(20, 10, "v")...)
	mustReclaim(t, x)
	mustCommit(t, x, 3, puts(40, 5, "v")...)
	mustReclaim(t, x)
	mustCommit(t, x, 3, puts(50, 3, "v")...)
	for range 3000 {
		c := d.Clone()
		for range 1 + r.Intn(3) {
			spoilBlock(r, c)
		}
		x, err := trunk.Open(c)
		if (x != nil) != (err == api.OK) {
			t.Fatalf("got %v, %d", x, err)
		}
		if x == nil {
			continue
		}
		x.Commit(puts(r.Intn(60), 2, "z"), 1)
		x.Commit([]trunk.Step{gone(r.Intn(60))}, 1)
		for range x.From(x.Root(), key(3)) {
		}
		x.Space([]uint32{uint32(r.Intn(200))})
		x.Reclaim([]uint32{uint32(r.Intn(200))})
	}
}

// spoilBlock writes something into one of the blocks that are in use: what another one has, a head, a node, or something that is neither.
func spoilBlock(r *rand.Rand, d *disk.Disk) {
	block := r.Intn(85)
	if r.Intn(2) == 0 {
		block = []int{0, 1, 2, 3, 4, 5, 66, 67, 68, 69}[r.Intn(10)]
	}
	switch r.Intn(4) {
	case 0:
		b, _ := d.Read(r.Intn(85))
		d.Write(block, b)
	case 1:
		d.Write(block, page.EncodeHead(api.Head{Seq: r.Uint64(), Log: uint64(r.Intn(6)), Root: uint32(r.Intn(90)), Items: uint32(r.Intn(3))}))
	case 2:
		b, _ := page.EncodeNode(api.Node{Keys: []string{key(r.Intn(60))}, Kids: []uint32{uint32(1 + r.Intn(90)), uint32(1 + r.Intn(90))}})
		d.Write(block, b)
	default:
		d.Write(block, make([]byte, api.Block))
	}
}

// R1: records that are none of a trunk's.
func TestOpenForeignRecords(t *testing.T) {
	for _, group := range [][]string{nil, {""}, {"abc"}, {"abcd", ""}, {"abcd", "+short"}, {"abcd", "+" + key(1) + string(make([]byte, 35))}, {"abcd", "?" + key(1)}, {"abcd", "-" + key(1) + "x"}} {
		d, _ := newTrunk(t, 192, pairs(3)...)
		appendTo(t, d, group)
		x, err := trunk.Open(d)
		if (x != nil) != (err == api.OK) {
			t.Errorf("%q: got %v, %d", group, x, err)
		}
	}
}
