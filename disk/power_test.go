package disk_test

import (
	"math"
	"strings"
	"testing"

	"armoire/api"
)

// P2.2 to P2.4: the chapter's examples.
func TestExamples(t *testing.T) {
	d := newDisk(t, 4)
	wantWrite(t, d, 1, all('a'), api.OK)
	wantWrite(t, d, 3, all('b'), api.OK)
	wantPending(t, d, 1, 3)
	d.Cut("\x00\x01")
	wantOn(t, d, false)
	d.Power()
	wantRead(t, d, 1, all(0))
	wantRead(t, d, 3, all('b'))
	d.Arm(1, "")
	wantWrite(t, d, 2, all('c'), api.OK)
	wantBarrier(t, d, api.ErrDown)
	wantOn(t, d, false)
}

// P2.4: the mask's bytes go by the rising blocks, odd ones survive, what is behind its end does not.
func TestCutMasks(t *testing.T) {
	masks := []string{
		"", "\x00", "\x01", "\x02", "\x03", "\xfe", "\xff", "0", "1",
		"\x01\x01", "\x00\x01", "\x01\x00", "\x02\x03", "\xff\xfe\xff",
		"\x00\x00\x01", "\x01\x01\x01", "\x01\x01\x01\x01", "\x00\x00\x00\x01", "\x01\x00\x01\x00\x01",
		"\u0101\u0101", strings.Repeat("\x01", 2000),
	}
	blocks := []int{2, 5, 7, 11}
	for _, mask := range masks {
		d := newDisk(t, 12)
		for _, i := range blocks {
			wantWrite(t, d, i, all(1), api.OK)
		}
		wantBarrier(t, d, api.OK)
		for _, k := range []int{2, 0, 3, 1} {
			wantWrite(t, d, blocks[k], mixed(blocks[k]), api.OK)
		}
		wantPending(t, d, blocks...)
		d.Cut(mask)
		wantOn(t, d, false)
		wantPending(t, d)
		d.Power()
		wantOn(t, d, true)
		wantPending(t, d)
		for k, i := range blocks {
			want := all(1)
			if k < len(mask) && mask[k]&1 != 0 {
				want = mixed(i)
			}
			wantRead(t, d, i, want)
		}
		wantRead(t, d, 0, all(0))
		wantRead(t, d, 6, all(0))
	}
}

// P2.4: what is safe behind a cut is not lost by the next one; a cut while the power is off does nothing.
func TestCutTwice(t *testing.T) {
	d := newDisk(t, 3)
	wantWrite(t, d, 0, all(1), api.OK)
	wantWrite(t, d, 1, all(2), api.OK)
	d.Cut("\x01")
	d.Cut("\x01\x01")
	wantOn(t, d, false)
	d.Power()
	wantRead(t, d, 0, all(1))
	wantRead(t, d, 1, all(0))
	d.Cut("")
	d.Power()
	wantRead(t, d, 0, all(1))
	wantRead(t, d, 1, all(0))
}

// P2.4: Power while it is on does nothing, neither to what is pending nor to how it is armed.
func TestPowerWhileOn(t *testing.T) {
	d := newDisk(t, 3)
	d.Power()
	wantWrite(t, d, 2, all(1), api.OK)
	d.Arm(0, "\x01")
	d.Power()
	wantPending(t, d, 2)
	wantRead(t, d, 2, all(1))
	wantBarrier(t, d, api.ErrDown)
	d.Power()
	d.Power()
	wantOn(t, d, true)
	wantRead(t, d, 2, all(1))
	wantBarrier(t, d, api.OK)
}

// P2.3: with n left n writes are done, the next one or a Barrier cuts, and is not done itself.
func TestArmCountsWrites(t *testing.T) {
	for _, n := range []int{0, 1, 2, 5} {
		for _, atBarrier := range []bool{false, true} {
			d := newDisk(t, 8)
			wantWrite(t, d, 7, all(7), api.OK)
			wantBarrier(t, d, api.OK)
			wantWrite(t, d, 6, all(6), api.OK)
			d.Arm(n, "\x01\x01\x01\x01\x01\x01\x01\x01")
			for i := range n {
				wantWrite(t, d, i, all(1), api.OK)
				wantOn(t, d, true)
			}
			if atBarrier {
				wantBarrier(t, d, api.ErrDown)
			} else {
				wantWrite(t, d, n, all(1), api.ErrDown)
			}
			wantOn(t, d, false)
			wantWrites(t, d, n+2)
			wantPending(t, d)
			d.Power()
			for i := range 6 {
				want := all(0)
				if i < n {
					want = all(1)
				}
				wantRead(t, d, i, want)
			}
			wantRead(t, d, 6, all(6))
			wantRead(t, d, 7, all(7))
		}
	}
}

// P2.3: the write that cuts leaves the block's earlier write pending for the cut.
func TestArmedWriteIsNotDone(t *testing.T) {
	for _, x := range []struct {
		mask string
		want byte
	}{{"", 1}, {"\x01", 2}} {
		d := newDisk(t, 1)
		wantWrite(t, d, 0, all(1), api.OK)
		wantBarrier(t, d, api.OK)
		wantWrite(t, d, 0, all(2), api.OK)
		d.Arm(0, x.mask)
		wantWrite(t, d, 0, all(3), api.ErrDown)
		d.Power()
		wantRead(t, d, 0, all(x.want))
	}
}

// P2.3: a Barrier while writes are left makes all safe and takes none of them.
func TestArmedBarrierWithWritesLeft(t *testing.T) {
	d := newDisk(t, 4)
	d.Arm(2, "")
	wantBarrier(t, d, api.OK)
	wantWrite(t, d, 0, all(1), api.OK)
	wantBarrier(t, d, api.OK)
	wantBarrier(t, d, api.OK)
	wantWrite(t, d, 1, all(2), api.OK)
	wantWrite(t, d, 2, all(3), api.ErrDown)
	d.Power()
	wantRead(t, d, 0, all(1))
	wantRead(t, d, 1, all(0))
	wantRead(t, d, 2, all(0))
}

// P2.3: reads are no writes, also when none is left.
func TestArmedReads(t *testing.T) {
	d := newDisk(t, 2)
	wantWrite(t, d, 1, all(1), api.OK)
	d.Arm(0, "\x01")
	for range 3 {
		wantRead(t, d, 1, all(1))
		wantReadErr(t, d, 2, api.ErrBlock)
	}
	wantPending(t, d, 1)
	wantOn(t, d, true)
}

// P2.3: a Write that is refused for another reason neither cuts nor takes one.
func TestArmedWriteRefused(t *testing.T) {
	d := newDisk(t, 2)
	wantWrite(t, d, 0, all(1), api.OK)
	d.Arm(1, "")
	for range 3 {
		wantWrite(t, d, 2, all(1), api.ErrBlock)
		wantWrite(t, d, -1, nil, api.ErrBlock)
		wantWrite(t, d, 1, all(1)[1:], api.ErrLong)
	}
	wantWrite(t, d, 1, all(1), api.OK)
	for range 3 {
		wantWrite(t, d, 2, all(1), api.ErrBlock)
		wantWrite(t, d, 2, nil, api.ErrBlock)
		wantWrite(t, d, 1, make([]byte, api.Block+1), api.ErrLong)
	}
	wantOn(t, d, true)
	wantPending(t, d, 0, 1)
	wantWrite(t, d, 1, all(2), api.ErrDown)
	wantOn(t, d, false)
}

// P2.3: below 0 it is not armed, whatever it was; the last Arm holds.
func TestArmAgain(t *testing.T) {
	for _, n := range []int{-1, -2, math.MinInt} {
		d := newDisk(t, 3)
		d.Arm(0, "\x01")
		d.Arm(n, "\x01")
		for range 3 {
			wantWrite(t, d, 1, all(1), api.OK)
		}
		wantBarrier(t, d, api.OK)
	}
	d := newDisk(t, 3)
	d.Arm(0, "\x01")
	d.Arm(math.MaxInt, "")
	wantWrite(t, d, 0, all(1), api.OK)
	d.Arm(1, "\x00\x01")
	wantWrite(t, d, 1, all(2), api.OK)
	wantBarrier(t, d, api.ErrDown)
	d.Power()
	wantRead(t, d, 0, all(0))
	wantRead(t, d, 1, all(2))
}

// P2.3: Arm does nothing while the power is off, and a cut ends that it is armed.
func TestArmWhileOff(t *testing.T) {
	d := newDisk(t, 3)
	d.Cut("")
	for _, n := range []int{0, 1, -1} {
		d.Arm(n, "\x01")
	}
	d.Power()
	wantWrite(t, d, 0, all(1), api.OK)
	wantWrite(t, d, 1, all(1), api.OK)
	wantBarrier(t, d, api.OK)

	d.Arm(1, "")
	d.Cut("")
	d.Power()
	wantWrite(t, d, 0, all(2), api.OK)
	wantWrite(t, d, 1, all(2), api.OK)
	wantBarrier(t, d, api.OK)

	d.Arm(0, "")
	wantBarrier(t, d, api.ErrDown)
	d.Power()
	wantBarrier(t, d, api.OK)
	wantWrite(t, d, 0, all(3), api.OK)
}

// P2.5: what a Barrier made safe is read behind every cut, if nothing else was written there.
func TestBarrierLasts(t *testing.T) {
	d := newDisk(t, 6)
	for i := range 6 {
		wantWrite(t, d, i, mixed(i), api.OK)
	}
	wantBarrier(t, d, api.OK)
	for _, mask := range []string{"", "\x00", "\x01", "\x01\x01", "\x00\x00"} {
		wantWrite(t, d, 2, all(2), api.OK)
		wantWrite(t, d, 4, all(4), api.OK)
		d.Cut(mask)
		d.Power()
		for _, i := range []int{0, 1, 3, 5} {
			wantRead(t, d, i, mixed(i))
		}
		want := [2][]byte{mixed(2), mixed(4)}
		for k, i := range []int{2, 4} {
			if k < len(mask) && mask[k] == 1 {
				want[k] = all(byte(i))
			}
			wantRead(t, d, i, want[k])
			wantWrite(t, d, i, mixed(i), api.OK)
		}
		wantBarrier(t, d, api.OK)
	}
}
