package trunk_test

import (
	"slices"
	"strings"
	"testing"

	"armoire/api"
	"armoire/disk"
	"armoire/page"
	"armoire/trunk"
)

// P11.1: from no pair to as many as a leaf has, on disks that are just large enough and larger; it is version 0, and safe.
func TestMake(t *testing.T) {
	for _, blocks := range []int{192, 193, 1024} {
		for count := range 11 {
			d := newDisk(t, blocks)
			x, err := trunk.Make(d, pairs(count), 5)
			if x == nil || err != api.OK {
				t.Fatalf("Make of %d pairs: got %v, %d", count, x, err)
			}
			want := seen{pairs: map[string]string{}, items: count, next: 5}
			for _, p := range pairs(count) {
				want.pairs[p.Key] = p.Value
			}
			wantSeen(t, x, want)
			if len(d.Pending()) > 0 {
				t.Errorf("pending: %v", d.Pending())
			}
			cutAndPower(d, "")
			wantSeen(t, mustOpen(t, d), want)
		}
	}
}

// P11.1: the heads stand in the blocks 0 and 1, and one of them tells of what was made.
func TestMakeHead(t *testing.T) {
	d, x := newTrunk(t, 192, pairs(3)...)
	var heads []api.Head
	for block := range 2 {
		b, _ := d.Read(block)
		if h, err := page.DecodeHead(b); err == api.OK {
			heads = append(heads, h)
		}
	}
	is := func(h api.Head) bool {
		return h.Root == x.Root() && h.Version == 0 && h.Items == 3 && h.Next == 2
	}
	if !slices.ContainsFunc(heads, is) {
		t.Errorf("got %v", heads)
	}
}

// P11.5: both blocks are heads when a second one was laid down: the first one stays till the other one is safe.
func TestBothHeads(t *testing.T) {
	d, x := newTrunk(t, 192, pairs(3)...)
	for range 5 {
		mustReclaim(t, x)
		first, isFirst := headSeq(d, 0)
		second, isSecond := headSeq(d, 1)
		if !isFirst || !isSecond || first == second {
			t.Errorf("got %d, %v and %d, %v", first, isFirst, second, isSecond)
		}
	}
}

// P11.1: the numbers that Next may be, and values of all lengths that may be.
func TestMakeEdges(t *testing.T) {
	for _, next := range []uint32{0, 1, 1<<31 - 1, 1 << 31, 1<<32 - 1} {
		d := newDisk(t, 192)
		x, err := trunk.Make(d, nil, next)
		if err != api.OK || x.Next() != next || x.Root() != 0 || mustOpen(t, d).Next() != next {
			t.Errorf("Next %d: got %v, %d", next, x, err)
		}
	}
	for _, length := range []int{0, 1, 33, 34} {
		value := strings.Repeat("x", length)
		_, x := newTrunk(t, 192, api.KV{Key: key(1), Value: value})
		if got, is, err := x.Get(x.Root(), key(1)); got != value || !is || err != api.OK {
			t.Errorf("a value of %d bytes: got %q, %v, %d", length, got, is, err)
		}
	}
}

// P11.1: wrong inputs, ahead of a power that is off; nothing is written.
func TestMakeArg(t *testing.T) {
	long := strings.Repeat("x", 35)
	for _, on := range []bool{true, false} {
		d := newDisk(t, 192)
		small := newDisk(t, 191)
		if !on {
			d.Cut("")
			small.Cut("")
		}
		wantMakeErr(t, nil, nil, api.ErrArg)
		wantMakeErr(t, small, nil, api.ErrArg)
		wantMakeErr(t, newDisk(t, 1), pairs(1), api.ErrArg)
		for _, l := range [][]api.KV{
			pairs(11),
			pairs(1000),
			{{Key: key(1)}, {Key: key(1)}},
			{{Key: key(2)}, {Key: key(1)}},
			{{Key: key(1)}, {Key: key(2)}, {Key: key(2), Value: "other"}},
			{{}},
			{{Key: key(1)[:13]}},
			{{Key: key(1) + "0"}},
			{{Key: key(1)}, {Key: "9"}},
			{{Key: key(1), Value: long}},
			{{Key: key(1)}, {Key: key(2), Value: long}},
		} {
			wantMakeErr(t, d, l, api.ErrArg)
		}
	}
}

// P11.1: with the power off nothing is made.
func TestMakeDown(t *testing.T) {
	d := newDisk(t, 192)
	d.Cut("")
	wantMakeErr(t, d, pairs(2), api.ErrDown)
	d.Power()
	wantOpenErr(t, d, api.ErrForm)
}

// eachMake calls behind a Make that was cut behind each number of its writes, with each of some masks.
func eachMake(t *testing.T, first func() *disk.Disk, l []api.KV, behind func(d *disk.Disk)) {
	t.Helper()
	for _, mask := range someMasks() {
		for n := 0; ; n++ {
			d := first()
			d.Arm(n, mask)
			x, err := trunk.Make(d, l, 9)
			if err == api.OK {
				if n < 2 {
					t.Fatalf("Make made %d writes", n)
				}
				break
			}
			if x != nil || err != api.ErrDown {
				t.Fatalf("cut at %d: got %v, %d", n, x, err)
			}
			d.Power()
			behind(d)
		}
	}
}

// P11.1, P11.2: behind each number of writes of a Make there is no trunk, or the one that it was to be; and one can be made.
func TestMakeCut(t *testing.T) {
	want := seen{pairs: map[string]string{key(0): "v", key(1): "v"}, items: 2, next: 9}
	eachMake(t, func() *disk.Disk { return newDisk(t, 192) }, pairs(2), func(d *disk.Disk) {
		x, err := trunk.Open(d)
		if err == api.OK {
			wantSeen(t, x, want)
		} else if x != nil || err != api.ErrForm {
			t.Fatalf("got %v, %d", x, err)
		}
		x, err = trunk.Make(d, pairs(2), 9)
		if err != api.OK {
			t.Fatalf("Make: got %d", err)
		}
		wantSeen(t, x, want)
		cutAndPower(d, "")
		wantSeen(t, mustOpen(t, d), want)
	})
}

// P11.1: a trunk on a disk that has one already: nothing of that is there any more.
func TestMakeAgain(t *testing.T) {
	d, x := newTrunk(t, 192, pairs(10)...)
	mustCommit(t, x, 3, puts(20, 4, "w")...)
	mustReclaim(t, x)
	mustCommit(t, x, 4, puts(40, 4, "w")...)
	for count := range 4 {
		x, err := trunk.Make(d, pairs(count), 5)
		if err != api.OK || x.Version() != 0 || x.Items() != count || x.Next() != 5 || len(read(t, x, x.Root())) != count {
			t.Fatalf("Make of %d pairs: got %d", count, err)
		}
		s := mustSpace(t, x)
		wantSpace(t, d, s)
		wantBounds(t, x, s, 0)
		want := look(t, x)
		cutAndPower(d, "")
		wantSeen(t, mustOpen(t, d), want)
	}
}

// P11.6: if a Make is cut on a disk that has a trunk, that one is there wholly, or the new one.
func TestMakeAgainCut(t *testing.T) {
	var elder seen
	first := func() *disk.Disk {
		d, x := newTrunk(t, 192, pairs(10)...)
		mustCommit(t, x, 3, puts(20, 3, "w")...)
		mustReclaim(t, x)
		mustCommit(t, x, 4, puts(40, 3, "w")...)
		elder = look(t, x)
		return d
	}
	fresh := seen{pairs: map[string]string{key(0): "v", key(1): "v"}, items: 2, next: 9}
	eachMake(t, first, pairs(2), func(d *disk.Disk) {
		if got := look(t, mustOpen(t, d)); !got.same(elder) && !got.same(fresh) {
			t.Fatalf("got %v", got)
		}
	})
}

// P11.1: whatever stands on the disk.
func TestMakeAnywhere(t *testing.T) {
	leaf, _ := page.EncodeNode(api.Node{Leaf: true, Pairs: pairs(1)})
	for _, filling := range [][]byte{
		[]byte(strings.Repeat("x", api.Block)),
		leaf,
		page.EncodeHead(api.Head{Seq: 1<<64 - 2, Root: 99, Items: 4, Log: 1 << 40}),
		page.EncodeHead(api.Head{Root: 3}),
		page.EncodeHead(api.Head{Root: 1<<32 - 1, Items: 1<<32 - 1}),
		page.EncodeHead(api.Head{Seq: 7, Log: 7}),
	} {
		d := newDisk(t, 192)
		for block := range 192 {
			d.Write(block, filling)
		}
		x, err := trunk.Make(d, pairs(3), 9)
		if err != api.OK || x.Items() != 3 || x.Version() != 0 {
			t.Fatalf("got %v, %d", x, err)
		}
		mustCommit(t, x, 10, put(5, "w"))
		want := look(t, x)
		cutAndPower(d, "")
		wantSeen(t, mustOpen(t, d), want)
		if len(want.pairs) != 4 {
			t.Errorf("got %v", want)
		}
	}
}

// R4: the pairs that are handed in are neither changed nor kept, nor the room behind them.
func TestMakeMemory(t *testing.T) {
	l := append(make([]api.KV, 0, 5), pairs(3)...)
	copies := slices.Clone(l[:5])
	d := newDisk(t, 192)
	x, _ := trunk.Make(d, l, 2)
	if !slices.Equal(l[:5], copies) {
		t.Errorf("the list was changed: %v", l[:5])
	}
	want := look(t, x)
	clear(l[:5])
	wantSeen(t, x, want)
}
