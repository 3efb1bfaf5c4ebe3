package disk_test

import (
	"math"
	"slices"
	"testing"

	"armoire/api"
	"armoire/disk"
)

// P2.1
func TestNew(t *testing.T) {
	for _, n := range []int{1, 2, 191, 192, api.MaxBlocks - 1, api.MaxBlocks} {
		d := newDisk(t, n)
		if d.Blocks() != n {
			t.Errorf("New(%d): Blocks: got %d", n, d.Blocks())
		}
		wantOn(t, d, true)
		wantWrites(t, d, 0)
		wantPending(t, d)
		for i := range n {
			wantRead(t, d, i, all(0))
		}
		wantReadErr(t, d, n, api.ErrBlock)
		d.Cut("\x01")
		d.Power()
		wantRead(t, d, n-1, all(0))
	}
}

// P2.1
func TestNewRefuses(t *testing.T) {
	for _, n := range []int{math.MinInt, -1024, -1, 0, api.MaxBlocks + 1, 2 * api.MaxBlocks, math.MaxInt} {
		if d, err := disk.New(n); d != nil || err != api.ErrArg {
			t.Errorf("New(%d): got %v, %d", n, d, err)
		}
	}
}

// P2.1: a new disk is not armed.
func TestNewIsNotArmed(t *testing.T) {
	d := newDisk(t, 2)
	wantBarrier(t, d, api.OK)
	for range 100 {
		wantWrite(t, d, 1, all(1), api.OK)
	}
	wantBarrier(t, d, api.OK)
	wantOn(t, d, true)
}

// P2.1: Writes tells what was done, not what was refused.
func TestWritesCounts(t *testing.T) {
	d := newDisk(t, 3)
	wantWrite(t, d, 0, all(1), api.OK)
	wantWrite(t, d, 0, all(1), api.OK)
	wantWrite(t, d, 2, all(0), api.OK)
	wantWrites(t, d, 3)
	wantWrite(t, d, 3, all(1), api.ErrBlock)
	wantWrite(t, d, 1, nil, api.ErrLong)
	wantBarrier(t, d, api.OK)
	wantRead(t, d, 0, all(1))
	wantWrites(t, d, 3)
	d.Arm(0, "")
	wantWrite(t, d, 1, all(1), api.ErrDown)
	wantWrites(t, d, 3)
	wantWrite(t, d, 1, all(1), api.ErrDown)
	d.Power()
	wantWrites(t, d, 3)
	wantWrite(t, d, 1, all(1), api.OK)
	wantWrites(t, d, 4)
}

// P2.2
func TestReadAndWriteAtTheEdges(t *testing.T) {
	for _, n := range []int{1, 4, api.MaxBlocks} {
		d := newDisk(t, n)
		for _, i := range []int{0, n / 2, n - 1} {
			wantWrite(t, d, i, mixed(i), api.OK)
			wantRead(t, d, i, mixed(i))
			wantBarrier(t, d, api.OK)
			wantRead(t, d, i, mixed(i))
		}
		for _, i := range []int{math.MinInt, -n, -1, n, n + 1, math.MaxInt} {
			wantReadErr(t, d, i, api.ErrBlock)
			wantWrite(t, d, i, all(9), api.ErrBlock)
		}
		for _, size := range []int{0, 1, api.Block - 1, api.Block + 1, 2 * api.Block} {
			wantWrite(t, d, n-1, make([]byte, size), api.ErrLong)
		}
		wantWrite(t, d, n-1, nil, api.ErrLong)
		wantPending(t, d)
		wantRead(t, d, n-1, mixed(n-1))
	}
}

// P2.2: ErrDown comes ahead of ErrBlock, ErrBlock ahead of ErrLong.
func TestOrderOfErrors(t *testing.T) {
	d := newDisk(t, 2)
	wantWrite(t, d, 2, []byte("short"), api.ErrBlock)
	wantWrite(t, d, -1, nil, api.ErrBlock)
	d.Cut("")
	for _, i := range []int{-1, 0, 1, 2} {
		wantReadErr(t, d, i, api.ErrDown)
		wantWrite(t, d, i, []byte("short"), api.ErrDown)
		wantWrite(t, d, i, all(1), api.ErrDown)
	}
	wantBarrier(t, d, api.ErrDown)
	d.Power()
	wantRead(t, d, 0, all(0))
	wantPending(t, d)
	wantWrites(t, d, 0)
}

// P2.2: of several writes to one block the last one is read, pending and made safe.
func TestSeveralWritesToOneBlock(t *testing.T) {
	d := newDisk(t, 3)
	wantWrite(t, d, 1, all(1), api.OK)
	wantWrite(t, d, 1, all(2), api.OK)
	wantWrite(t, d, 1, mixed(3), api.OK)
	wantRead(t, d, 1, mixed(3))
	wantPending(t, d, 1)
	wantWrites(t, d, 3)
	wantBarrier(t, d, api.OK)
	wantPending(t, d)
	d.Cut("")
	d.Power()
	wantRead(t, d, 1, mixed(3))
	wantRead(t, d, 0, all(0))
	wantRead(t, d, 2, all(0))
}

// P2.2: what is written is pending also if it is what was safe there.
func TestTheSameBytesArePending(t *testing.T) {
	d := newDisk(t, 4)
	wantWrite(t, d, 2, all(0), api.OK)
	wantPending(t, d, 2)
	wantWrite(t, d, 3, all(7), api.OK)
	wantBarrier(t, d, api.OK)
	wantWrite(t, d, 3, all(7), api.OK)
	wantWrite(t, d, 0, all(0), api.OK)
	wantWrite(t, d, 1, all(5), api.OK)
	wantPending(t, d, 0, 1, 3)
	d.Cut("\x00\x01")
	d.Power()
	wantRead(t, d, 1, all(5))
	wantRead(t, d, 3, all(7))
}

// P2.2: a block may become all 0 again, and that lasts.
func TestAllZeroAgain(t *testing.T) {
	d := newDisk(t, 2)
	wantWrite(t, d, 0, all(1), api.OK)
	wantWrite(t, d, 1, all(2), api.OK)
	wantBarrier(t, d, api.OK)
	wantWrite(t, d, 0, all(0), api.OK)
	wantWrite(t, d, 1, all(0), api.OK)
	wantRead(t, d, 0, all(0))
	c := d.Clone()
	wantBarrier(t, d, api.OK)
	d.Cut("")
	d.Power()
	wantRead(t, d, 0, all(0))
	wantRead(t, d, 1, all(0))
	c.Cut("\x00\x01")
	c.Power()
	wantRead(t, c, 0, all(1))
	wantRead(t, c, 1, all(0))
}

// P2.2: one byte that differs, wherever it stands, is kept.
func TestSingleByteLasts(t *testing.T) {
	d := newDisk(t, api.Block)
	for i := range api.Block {
		b := all(0)
		b[i] = 0x80
		wantWrite(t, d, i, b, api.OK)
	}
	wantBarrier(t, d, api.OK)
	d.Cut("")
	d.Power()
	for i := range api.Block {
		b := all(0)
		b[i] = 0x80
		wantRead(t, d, i, b)
	}
}

// R4: no memory is shared with what was handed in or answered.
func TestNoSharedMemory(t *testing.T) {
	d := newDisk(t, 4)
	room := make([]byte, 3*api.Block)
	given := room[api.Block : 2*api.Block]
	copy(given, mixed(1))
	wantWrite(t, d, 1, given, api.OK)
	for i, c := range room {
		if i/api.Block != 1 && c != 0 {
			t.Fatalf("Write changed the byte %d outside of what it was given", i)
		}
	}
	if !slices.Equal(given, mixed(1)) {
		t.Errorf("Write changed what it was given")
	}
	clear(room)
	wantRead(t, d, 1, mixed(1))
	spoilRead(t, d, 1)
	wantRead(t, d, 1, mixed(1))
	spoilPending(d)
	wantPending(t, d, 1)
	wantBarrier(t, d, api.OK)
	wantRead(t, d, 1, mixed(1))
	spoilRead(t, d, 1)
	wantRead(t, d, 1, mixed(1))
	spoilRead(t, d, 2)
	wantRead(t, d, 2, all(0))
	wantRead(t, d, 3, all(0))
	wantWrite(t, d, 2, given, api.OK)
	spoilRead(t, d, 2)
	d.Cut("\x01")
	d.Power()
	wantRead(t, d, 2, all(0))
}

func spoilRead(t *testing.T, d *disk.Disk, i int) {
	t.Helper()
	b, err := d.Read(i)
	if err != api.OK {
		t.Fatalf("Read(%d): got %d", i, err)
	}
	b = b[:cap(b)]
	for k := range b {
		b[k] ^= 0x55
	}
}

func spoilPending(d *disk.Disk) {
	p := d.Pending()
	p = p[:cap(p)]
	for k := range p {
		p[k] = 3
	}
}
