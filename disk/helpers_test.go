package disk_test

import (
	"bytes"
	"slices"
	"testing"

	"armoire/api"
	"armoire/disk"
)

// all is a block whose bytes are all c.
func all(c byte) []byte { return bytes.Repeat([]byte{c}, api.Block) }

// mixed is a block whose bytes differ.
func mixed(seed int) []byte {
	b := make([]byte, api.Block)
	for i := range b {
		b[i] = byte(i*7 + i/256 + seed)
	}
	return b
}

func newDisk(t *testing.T, blocks int) *disk.Disk {
	t.Helper()
	d, err := disk.New(blocks)
	if d == nil || err != api.OK {
		t.Fatalf("New(%d): got %v, %d", blocks, d, err)
	}
	return d
}

func wantRead(t *testing.T, d *disk.Disk, i int, want []byte) {
	t.Helper()
	if b, err := d.Read(i); err != api.OK || !bytes.Equal(b, want) {
		t.Errorf("Read(%d): got %.6x.., %d, want %.6x..", i, b, err, want)
	}
}

func wantReadErr(t *testing.T, d *disk.Disk, i int, want api.Errno) {
	t.Helper()
	if b, err := d.Read(i); err != want || len(b) != 0 {
		t.Errorf("Read(%d): got %d bytes, %d, want none, %d", i, len(b), err, want)
	}
}

func wantWrite(t *testing.T, d *disk.Disk, i int, b []byte, want api.Errno) {
	t.Helper()
	if err := d.Write(i, b); err != want {
		t.Errorf("Write(%d, %d bytes): got %d, want %d", i, len(b), err, want)
	}
}

func wantBarrier(t *testing.T, d *disk.Disk, want api.Errno) {
	t.Helper()
	if err := d.Barrier(); err != want {
		t.Errorf("Barrier: got %d, want %d", err, want)
	}
}

func wantPending(t *testing.T, d *disk.Disk, want ...int) {
	t.Helper()
	if got := d.Pending(); !slices.Equal(got, want) {
		t.Errorf("Pending: got %v, want %v", got, want)
	}
}

func wantWrites(t *testing.T, d *disk.Disk, want int) {
	t.Helper()
	if got := d.Writes(); got != want {
		t.Errorf("Writes: got %d, want %d", got, want)
	}
}

func wantOn(t *testing.T, d *disk.Disk, want bool) {
	t.Helper()
	if got := d.On(); got != want {
		t.Errorf("On: got %v, want %v", got, want)
	}
}
