package trunk_test

import (
	"fmt"
	"testing"

	"armoire/api"
)

// P11.4: Get and From of the trunk's root and of elder ones that are there.
func TestRead(t *testing.T) {
	_, x := newTrunk(t, 1024)
	var roots []uint32
	for i := range 60 {
		roots = append(roots, x.Root())
		mustCommit(t, x, 2, put(2*i, fmt.Sprint(i)))
	}
	roots = append(roots, x.Root())
	for at, root := range roots {
		for i := range 60 {
			value, is, err := x.Get(root, key(2*i))
			if want := i < at; is != want || err != api.OK || is && value != fmt.Sprint(i) || !is && value != "" {
				t.Fatalf("Get(%d, %d): got %q, %v, %d", root, 2*i, value, is, err)
			}
			if value, is, err := x.Get(root, key(2*i+1)); value != "" || is || err != api.OK {
				t.Fatalf("Get(%d, %d): got %q, %v, %d", root, 2*i+1, value, is, err)
			}
		}
		for from := range 125 {
			next := (from + 1) / 2
			for p, err := range x.From(root, key(from)) {
				if p.Key != key(2*next) || p.Value != fmt.Sprint(next) || err != api.OK {
					t.Fatalf("From(%d, %d): got %v, %d, want %d", root, from, p, err, next)
				}
				next++
			}
			if next != max(at, (from+1)/2) {
				t.Fatalf("From(%d, %d): it ended at %d", root, from, next)
			}
		}
	}
}

// P11.4: keys that are none are just not there.
func TestReadOtherKeys(t *testing.T) {
	_, x := newTrunk(t, 192, pairs(3)...)
	for _, k := range []string{"", "0", key(1)[:13], key(1) + "x", "\xff"} {
		if value, is, err := x.Get(x.Root(), k); value != "" || is || err != api.OK {
			t.Errorf("Get(%q): got %q, %v, %d", k, value, is, err)
		}
	}
	count := 0
	for range x.From(x.Root(), key(1)+"x") {
		count++
	}
	if count != 1 {
		t.Errorf("From: got %d pairs", count)
	}
}

// P11.4: left early; and gone through twice.
func TestFromLeft(t *testing.T) {
	_, x := newTrunk(t, 192, pairs(10)...)
	mustCommit(t, x, 2, puts(10, 9, "v")...)
	all := x.From(x.Root(), "")
	for n := range 20 {
		count := 0
		for p, err := range all {
			if count == n {
				break
			}
			if p.Key != key(count) || err != api.OK {
				t.Fatalf("got %v, %d", p, err)
			}
			count++
		}
		if count != min(n, 19) {
			t.Fatalf("got %d pairs, want %d", count, n)
		}
	}
}

// P11.4: with the power off, whatever is asked, also of a tree without a page; it may come on again.
func TestReadDown(t *testing.T) {
	d, x := newTrunk(t, 192)
	mustCommit(t, x, 2, puts(0, 9, "v")...)
	all := x.From(x.Root(), "")
	d.Cut("")
	for _, root := range []uint32{0, x.Root(), 1, 191, 1000} {
		if value, is, err := x.Get(root, key(1)); value != "" || is || err != api.ErrDown {
			t.Errorf("Get(%d): got %q, %v, %d", root, value, is, err)
		}
		count := 0
		for p, err := range x.From(root, "") {
			if p != (api.KV{}) || err != api.ErrDown {
				t.Errorf("From(%d): got %v, %d", root, p, err)
			}
			count++
		}
		if count != 1 {
			t.Errorf("From(%d): got %d answers", root, count)
		}
	}
	for range x.From(x.Root(), "") {
		break
	}
	if x.Version() != 1 || x.Items() != 9 || x.Next() != 2 {
		t.Errorf("got %d, %d, %d", x.Version(), x.Items(), x.Next())
	}
	d.Power()
	count := 0
	for _, err := range all {
		if err != api.OK {
			t.Errorf("From: got %d", err)
		}
		count++
	}
	if count != 9 {
		t.Errorf("From: got %d pairs", count)
	}
}

// P11.4: the power is cut while somebody goes through the pairs: no other one is told.
func TestFromCut(t *testing.T) {
	for n := range 18 {
		d, x := newTrunk(t, 192, pairs(10)...)
		mustCommit(t, x, 2, puts(10, 9, "v")...)
		var told []api.Errno
		for _, err := range x.From(x.Root(), "") {
			if told = append(told, err); len(told) == n+1 {
				d.Cut("")
			}
		}
		if len(told) != n+2 || told[n] != api.OK || told[n+1] != api.ErrDown {
			t.Errorf("cut behind %d pairs: got %v", n+1, told)
		}
	}
}

// P11.7: whoever goes through a root that is there sees it as it was, whatever is committed or reclaimed meanwhile.
func TestFromMeanwhile(t *testing.T) {
	_, x := newTrunk(t, 300, pairs(10)...)
	mustCommit(t, x, 2, puts(10, 9, "v")...)
	root, n := x.Root(), 0
	for p, err := range x.From(root, "") {
		if p != (api.KV{Key: key(n), Value: "v"}) || err != api.OK {
			t.Fatalf("got %v, %d, want %d", p, err, n)
		}
		mustCommit(t, x, 2, gone(18-n), put(n, "w"))
		if n%4 == 0 {
			mustReclaim(t, x, root)
		}
		if n++; n == 9 {
			break
		}
	}
}

// R1: of roots that are not there something is answered.
func TestReadWild(t *testing.T) {
	_, x := newTrunk(t, 192, pairs(10)...)
	mustCommit(t, x, 2, puts(10, 9, "v")...)
	for _, root := range []uint32{1, 2, 65, 66, 67, 68, 69, 191, 192, 1 << 31, 1<<32 - 1} {
		for _, k := range []string{"", key(5)} {
			if value, is, err := x.Get(root, k); err != api.OK && (value != "" || is) {
				t.Errorf("Get(%d): got %q, %v, %d", root, value, is, err)
			}
			for p, err := range x.From(root, k) {
				if err != api.OK && p != (api.KV{}) {
					t.Errorf("From(%d): got %v, %d", root, p, err)
				}
			}
		}
	}
}
