package disk_test

import (
	"testing"

	"armoire/api"
)

// P2.4: a clone has what is safe, what is pending, how it is armed, the power and Writes.
func TestCloneHasAll(t *testing.T) {
	d := newDisk(t, 4)
	wantWrite(t, d, 0, mixed(1), api.OK)
	wantBarrier(t, d, api.OK)
	wantWrite(t, d, 1, mixed(2), api.OK)
	wantWrite(t, d, 3, mixed(3), api.OK)
	d.Arm(1, "\x00\x01\x01")
	c := d.Clone()
	if c.Blocks() != 4 {
		t.Errorf("Blocks: got %d", c.Blocks())
	}
	wantWrites(t, c, 3)
	wantOn(t, c, true)
	wantPending(t, c, 1, 3)
	wantRead(t, c, 0, mixed(1))
	wantRead(t, c, 1, mixed(2))
	wantWrite(t, c, 2, mixed(4), api.OK)
	wantWrite(t, c, 2, mixed(5), api.ErrDown)
	off := c.Clone()
	wantOn(t, off, false)
	wantReadErr(t, off, 0, api.ErrDown)
	wantWrites(t, off, 4)
	wantPending(t, off)
	off.Power()
	wantOn(t, c, false)
	wantRead(t, off, 0, mixed(1))
	wantRead(t, off, 1, all(0))
	wantRead(t, off, 2, mixed(4))
	wantRead(t, off, 3, mixed(3))
	wantReadErr(t, off, 4, api.ErrBlock)
}

// P2.5: neither sees what is done to the other.
func TestCloneGoesItsOwnWay(t *testing.T) {
	d := newDisk(t, 4)
	wantWrite(t, d, 0, all(1), api.OK)
	wantBarrier(t, d, api.OK)
	wantWrite(t, d, 1, all(2), api.OK)
	d.Arm(3, "\x01")
	c := d.Clone()

	wantWrite(t, d, 0, all(9), api.OK)
	wantWrite(t, d, 2, all(9), api.OK)
	wantPending(t, c, 1)
	wantWrites(t, c, 2)
	wantRead(t, c, 0, all(1))
	wantRead(t, c, 2, all(0))
	wantBarrier(t, d, api.OK)
	wantPending(t, c, 1)
	wantRead(t, c, 0, all(1))
	d.Cut("")
	wantOn(t, c, true)

	wantWrite(t, c, 3, all(3), api.OK)
	wantWrite(t, c, 3, all(4), api.OK)
	wantWrite(t, c, 3, all(5), api.OK)
	c.Arm(-1, "")
	wantBarrier(t, c, api.OK)
	wantWrites(t, d, 4)
	d.Power()
	wantPending(t, d)
	wantRead(t, d, 0, all(9))
	wantRead(t, d, 1, all(2))
	wantRead(t, d, 3, all(0))
	wantRead(t, c, 3, all(5))

	d.Arm(0, "")
	wantWrite(t, c, 0, all(6), api.OK)
	c.Cut("\x01")
	wantOn(t, d, true)
	wantRead(t, d, 0, all(9))
	wantBarrier(t, d, api.ErrDown)
}

// P2.5: writes to the first are not pending in a clone that was made while nothing was.
func TestCloneOfANewDisk(t *testing.T) {
	d := newDisk(t, 2)
	c := d.Clone()
	wantWrite(t, d, 0, all(1), api.OK)
	wantBarrier(t, d, api.OK)
	wantWrite(t, d, 1, all(1), api.OK)
	wantPending(t, c)
	wantRead(t, c, 0, all(0))
	wantRead(t, c, 1, all(0))
	wantWrites(t, c, 0)
	wantWrite(t, c, 1, all(2), api.OK)
	wantRead(t, d, 1, all(1))
}
