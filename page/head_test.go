package page_test

import (
	"bytes"
	"math"
	"math/rand"
	"slices"
	"strings"
	"testing"

	"armoire/api"
	"armoire/page"
)

// wantHead holds a head and its block against each other.
func wantHead(t *testing.T, h api.Head, block []byte) {
	t.Helper()
	if b := page.EncodeHead(h); !bytes.Equal(b, block) {
		t.Errorf("EncodeHead(%v): got % x, want % x", h, b, block)
	}
	if got, err := page.DecodeHead(block); got != h || err != api.OK {
		t.Errorf("DecodeHead(% x): got %v, %d, want %v", block, got, err, h)
	}
}

// P5.1, P5.2: the document's example, and each field where it stands.
func TestHeadBlocks(t *testing.T) {
	noughts := func(n int) string { return strings.Repeat("\x00", n) }
	wantHead(t, api.Head{}, sealed("armoire1"))
	wantHead(t, api.Head{Root: 7}, sealed("armoire1"+noughts(24)+"\x00\x00\x00\x07"))
	wantHead(t, api.Head{Seq: 0x0102030405060708, Version: 0x1112131415161718, Log: 0x2122232425262728, Root: 0x31323334, Next: 0x41424344, Items: 0x51525354},
		sealed("armoire1\x01\x02\x03\x04\x05\x06\x07\x08\x11\x12\x13\x14\x15\x16\x17\x18\x21\x22\x23\x24\x25\x26\x27\x28\x31\x32\x33\x34\x41\x42\x43\x44\x51\x52\x53\x54"))
}

// P5.1, P5.2, P5.4: heads with each field 0, the greatest, and others.
func TestDecodeHeadOfEncodeHead(t *testing.T) {
	long := []uint64{0, 1, 255, 256, math.MaxUint32, math.MaxUint32 + 1, 1 << 63, math.MaxUint64 - 1, math.MaxUint64}
	short := []uint32{0, 1, 255, 256, 1 << 31, math.MaxUint32 - 1, math.MaxUint32}
	for _, n := range long {
		for _, h := range []api.Head{{Seq: n}, {Version: n}, {Log: n}} {
			wantHead(t, h, headBlock(h))
		}
	}
	for _, n := range short {
		for _, h := range []api.Head{{Root: n}, {Next: n}, {Items: n}} {
			wantHead(t, h, headBlock(h))
		}
	}
	most := api.Head{Seq: math.MaxUint64, Version: math.MaxUint64, Log: math.MaxUint64, Root: math.MaxUint32, Next: math.MaxUint32, Items: math.MaxUint32}
	wantHead(t, most, headBlock(most))
	source := rand.New(rand.NewSource(54))
	for range 1000 {
		h := api.Head{Seq: source.Uint64(), Version: source.Uint64(), Log: source.Uint64(), Root: source.Uint32(), Next: source.Uint32(), Items: source.Uint32()}
		wantHead(t, h, headBlock(h))
	}
}

// P5.2: blocks with a right sum that are of no head: another mark, or a byte that is not 0 behind the fields.
func TestDecodeHeadOfOtherBlocks(t *testing.T) {
	block := headBlock(api.Head{Seq: 1, Version: 2, Log: 3, Root: 4, Next: 5, Items: 6})
	for at := range 508 {
		if 8 <= at && at < 44 {
			continue
		}
		for _, x := range []byte{1, 0x20, 0x80, 0xff} {
			b := slices.Clone(block)
			b[at] ^= x
			wantNoHead(t, reseal(b), api.ErrForm)
		}
	}
	for _, s := range []string{"armoire", "armoire0", "armoire2", "Armoire1", " armoire1", "armoire1\x00\x00"[1:]} {
		wantNoHead(t, sealed(s), api.ErrForm)
	}
}

// P5.2, P5.4: each block with a right sum and a head's mark is read and written as this block.
func TestEncodeHeadOfDecodeHead(t *testing.T) {
	source := rand.New(rand.NewSource(55))
	for range 1000 {
		b := sealed("armoire1" + randomText(source, 36))
		h, err := page.DecodeHead(b)
		if err != api.OK {
			t.Fatalf("DecodeHead(% x): got %d", b, err)
		}
		wantHead(t, h, b)
	}
}

// P5.2: a node is no head, a head no node.
func TestNodesAndHeadsApart(t *testing.T) {
	for _, n := range someNodes() {
		wantNoHead(t, nodeBlock(n), api.ErrForm)
	}
	for _, h := range []api.Head{{}, {Root: 7}, {Seq: 1, Version: 2, Log: 3, Root: 4, Next: 5, Items: 6}} {
		wantNoBlock(t, headBlock(h), api.ErrForm)
	}
}

// R4: heads' blocks are new memory.
func TestHeadsAndMemory(t *testing.T) {
	h := api.Head{Seq: 1, Root: 7}
	a, b := page.EncodeHead(h), page.EncodeHead(h)
	spoil(a)
	if !bytes.Equal(b, headBlock(h)) {
		t.Error("two blocks share memory")
	}
	if again := page.EncodeHead(h); !bytes.Equal(again, headBlock(h)) {
		t.Error("a block is kept")
	}
	room := slices.Concat(headBlock(h), bytes.Repeat([]byte{7}, 100))
	before := slices.Clone(room)
	page.DecodeHead(room[:512])
	if !bytes.Equal(room, before) {
		t.Error("the block was changed")
	}
}
