package view_test

import (
	"math"
	"slices"
	"strings"
	"testing"

	"armoire/api"
	"armoire/item"
)

// someNames rise.
var someNames = []string{"\x01", "A", "a", "a\x01", "aa", "abcdefgh", "b", "b.", "\xff", "\xff\xff\xff\xff\xff\xff\xff\xff"}

// named is a base with these entries of an inode.
func named(ino uint32, names ...string) *store {
	var l []api.KV
	for i, name := range names {
		l = append(l, kv(entry(ino, name), leadsTo(uint32(i+2))))
	}
	return storeOf(l...)
}

// P14.3: of 0 one error, whatever the base and the delta have; the base is not asked.
func TestNamesOfNone(t *testing.T) {
	for _, fault := range []api.Errno{api.OK, api.ErrDown} {
		b := named(1, "a", "b")
		b.pairs = append([]api.KV{{Key: "\x00\x00\x00\x00\x02a" + strings.Repeat("\x00", 8)}}, b.pairs...)
		b.fault = fault
		v := viewOf(t, b, leads(entry(1, "c"), 2))
		wantNames(t, v, 0, api.ErrPlace)
		count := 0
		for range v.Names(0) {
			count++
			break
		}
		if count != 1 || b.asked() != 0 {
			t.Errorf("%d answers; the base was asked %d times", count, b.asked())
		}
	}
}

// P14.3: an inode without entries; one without anything.
func TestNamesWithoutEntries(t *testing.T) {
	b := storeOf(kv(record(2), inode(api.Dir, 0, 1, 0)), kv(data(2, 0), bytesOf("a")), kv(entry(1, "a"), leadsTo(2)), kv(entry(3, "a"), leadsTo(2)))
	v := viewOf(t, b)
	wantNames(t, v, 2, api.OK)
	wantNames(t, v, 4, api.OK)
	wantNames(t, v, math.MaxUint32, api.OK)
	v = viewOf(t, b, gone(entry(2, "a")), size(record(2), 1), text(data(2, 1), 0, "b"), leads(entry(3, "b"), 2), leads(entry(1, "b"), 2))
	wantNames(t, v, 2, api.OK)
	wantNames(t, v, 4, api.OK)
}

// P14.3: the example, and what the base alone, the delta alone and both have.
func TestNames(t *testing.T) {
	wantNames(t, viewOf(t, named(1, "a"), leads(entry(1, "b"), 2), gone(entry(1, "a"))), 1, api.OK, "b")
	wantNames(t, viewOf(t, named(1, someNames...)), 1, api.OK, someNames...)
	var sets, takes []api.Change
	for _, name := range someNames {
		sets = append(sets, leads(entry(1, name), 9))
		takes = append(takes, gone(entry(1, name)))
	}
	slices.Reverse(sets)
	wantNames(t, viewOf(t, storeOf(), sets...), 1, api.OK, someNames...)
	wantNames(t, viewOf(t, named(1, someNames...), sets...), 1, api.OK, someNames...)
	wantNames(t, viewOf(t, named(1, someNames...), takes...), 1, api.OK)
	wantNames(t, viewOf(t, storeOf(), takes...), 1, api.OK)
	wantNames(t, viewOf(t, named(1, someNames...), append(takes, sets...)...), 1, api.OK, someNames...)
	wantNames(t, viewOf(t, named(1, someNames...), append(sets, takes...)...), 1, api.OK)
}

// P14.3: five names, each of which the base has or not, and the delta sets, takes away or leaves: all of these.
func TestNamesOfEachKind(t *testing.T) {
	names := []string{"a", "a\xff", "b", "c", "cc"}
	for n := range 6 * 6 * 6 * 6 * 6 {
		var has, want []string
		var changes []api.Change
		for i, name := range names {
			kind := n / []int{1, 6, 36, 216, 1296}[i] % 6
			if kind%2 == 1 {
				has = append(has, name)
			}
			switch kind / 2 {
			case 1:
				changes = append(changes, leads(entry(1, name), 7))
			case 2:
				changes = append(changes, gone(entry(1, name)))
			}
			if kind == 1 || kind/2 == 1 {
				want = append(want, name)
			}
		}
		wantNames(t, viewOf(t, named(1, has...), changes...), 1, api.OK, want...)
		if t.Failed() {
			t.Fatalf("the base has %q, the changes are %+v", has, changes)
		}
	}
}

// P14.3: whatever the values are.
func TestNamesWhateverTheirValues(t *testing.T) {
	var l []api.KV
	var want []string
	for i, wrong := range wrongValues(api.Entry) {
		name := string(rune('a' + i))
		l = append(l, api.KV{Key: key(entry(1, name)), Value: wrong})
		want = append(want, name)
	}
	v := viewOf(t, storeOf(l...))
	wantNames(t, v, 1, api.OK, want...)
	wantNone(t, v, entry(1, "a"), api.ErrForm)
}

// others are pairs that are no entries of 258 (0x102): those of other places, and such as are no places'.
func others() []api.KV {
	var l []api.KV
	for _, ino := range []uint32{1, 2, 256, 257, 259, 513, 0x10200, 0x01020000, math.MaxUint32} {
		l = append(l, kv(record(ino), inode(api.Dir, 0, 1, 0)), kv(entry(ino, "m"), leadsTo(2)), kv(data(ino, 15), bytesOf("m")))
	}
	l = append(l, kv(record(258), inode(api.Dir, 0, 1, 0)), kv(data(258, 0), bytesOf("m")), kv(data(258, 1), bytesOf("m")))
	for _, rest := range []string{
		"", "\x00\x00\x00\x00\x00\x00\x00\x00\x00", "\x00m\x00\x00\x00\x00\x00\x00\x00",
		"m", "m\x00", "m\x00\x00\x00\x00\x00\x00\x00", "m\x00\x00\x00\x00\x00\x00\x00\x00\x00", "m\x00n\x00\x00\x00\x00\x00\x00",
		"mmmmmmmmm", "mmmmmmmmmm", ".\x00\x00\x00\x00\x00\x00\x00\x00", "..\x00\x00\x00\x00\x00\x00\x00", "m/\x00\x00\x00\x00\x00\x00\x00", "\xff\xff\xff\xff\xff\xff\xff\xff\xff", strings.Repeat("\xff", 300),
	} {
		l = append(l, api.KV{Key: "\x00\x00\x01\x02\x02" + rest, Value: value(api.Entry, leadsTo(3))})
	}
	return append(l, api.KV{Key: "", Value: "x"}, api.KV{Key: "\x00", Value: "x"}, api.KV{Key: "\x00\x00\x01\x02\x00" + strings.Repeat("\x00", 9)}, api.KV{Key: "\x00\x00\x01\x02\xff" + strings.Repeat("\x00", 9)}, api.KV{Key: "\xff"})
}

// P14.3: keys of other places, and such as are no places', ahead of the names, between them and behind them, are passed over.
func TestNamesAmongOtherKeys(t *testing.T) {
	b := storeOf(append(others(), named(258, someNames...).pairs...)...)
	wantNames(t, viewOf(t, b), 258, api.OK, someNames...)
	wantNames(t, viewOf(t, storeOf(others()...)), 258, api.OK)
	var sets []api.Change
	for _, name := range someNames {
		sets = append(sets, leads(entry(258, name), 9))
	}
	wantNames(t, viewOf(t, storeOf(others()...), sets...), 258, api.OK, someNames...)
	for _, ino := range []uint32{1, 2, 256, 257, 259, 513, 0x10200, 0x01020000, math.MaxUint32} {
		wantNames(t, viewOf(t, b), ino, api.OK, "m")
		wantNames(t, viewOf(t, b, leads(entry(258, "n"), 9), gone(entry(258, "m"))), ino, api.OK, "m")
		wantNames(t, viewOf(t, b, leads(entry(ino, "n"), 9), gone(entry(ino, "m"))), ino, api.OK, "n")
	}
}

// P14.3: an error of the base ends it: the names up to it are told, those of the delta as far as the base has come.
func TestNamesWhereTheBaseFails(t *testing.T) {
	has := []string{"b", "d", "f"}
	changes := []api.Change{leads(entry(1, "a"), 2), leads(entry(1, "c"), 2), leads(entry(1, "d"), 2), gone(entry(1, "dd")), gone(entry(1, "f")), leads(entry(1, "g"), 2)}
	for _, fault := range faults {
		for _, wild := range []bool{false, true} {
			for n, want := range [][]string{{}, {"b"}, {"b", "d"}, {"b", "d", "f"}} {
				b := named(1, has[:n]...)
				b.fault, b.wild = fault, wild
				wantNames(t, viewOf(t, b), 1, fault, want...)
			}
			for n, want := range [][]string{{}, {"a", "b"}, {"a", "b", "c", "d"}, {"a", "b", "c", "d"}} {
				b := named(1, has[:n]...)
				b.fault, b.wild = fault, wild
				wantNames(t, viewOf(t, b, changes...), 1, fault, want...)
			}
		}
	}
}

// P14.3: a key that is passed over tells nothing of how far the base has come; an error behind all entries of the inode is not met.
func TestNamesWhereTheBaseFailsElsewhere(t *testing.T) {
	b := named(1, "a")
	b.pairs = append(b.pairs, api.KV{Key: "\x00\x00\x00\x01\x02n/" + strings.Repeat("\x00", 7)})
	b.fault = api.ErrDown
	wantNames(t, viewOf(t, b, leads(entry(1, "b"), 2)), 1, api.ErrDown, "a")
	for _, behind := range []api.Place{data(1, 0), record(2), entry(2, "a")} {
		b := named(1, "a")
		b.pairs = append(b.pairs, kv(behind, item.Item{}))
		b.fault = api.ErrDown
		wantNames(t, viewOf(t, b, leads(entry(1, "b"), 2)), 1, api.OK, "a", "b")
	}
}

// P14.3: broken off at each name, and at the error; no more of the base is asked for than is told, and it is begun anew behind that.
func TestNamesBroken(t *testing.T) {
	changes := []api.Change{leads(entry(1, "a"), 2), leads(entry(1, "c"), 2), gone(entry(1, "d")), leads(entry(1, "e"), 2), leads(entry(1, "g"), 2), leads(entry(1, "h"), 2)}
	want := []string{"a", "b", "c", "e", "f", "g", "h"}
	told := []int{1, 1, 2, 3, 4, 4, 4} // of the base, till that name is known to be the next one
	b := named(1, "b", "d", "e", "f")
	seq := viewOf(t, b, changes...).Names(1)
	for stop := range want {
		b.told = nil
		var got []string
		for name, err := range seq {
			if got = append(got, name); err != api.OK {
				t.Errorf("got %d", err)
			}
			if len(got) > stop {
				break
			}
		}
		if !slices.Equal(got, want[:stop+1]) || len(b.told) != told[stop] {
			t.Errorf("broken off at %d: got %q; %d of the base were told", stop, got, len(b.told))
		}
	}
	b.fault = api.ErrDown
	var got []string
	for name, err := range seq {
		if got = append(got, name); err != api.OK {
			break
		}
	}
	if !slices.Equal(got, []string{"a", "b", "c", "e", "f", ""}) {
		t.Errorf("broken off at the error: got %q", got)
	}
	if !slices.Equal(b.froms, []string{"\x00\x00\x00\x01\x02" + strings.Repeat("\x00", 9)}) || len(b.gets) != 0 {
		t.Errorf("the base was asked from %q on, and for %q", b.froms, b.gets)
	}
}

// R5: Names tells what was there when it was called, whatever is put in since then, and while it is gone through.
func TestNamesMeanwhile(t *testing.T) {
	v := viewOf(t, named(1, "b", "d", "f"), leads(entry(1, "c"), 2))
	was := v.Names(1)
	wantPut(t, v, leads(entry(1, "a"), 2), api.OK)
	wantPut(t, v, gone(entry(1, "d")), api.OK)
	wantPut(t, v, gone(entry(1, "c")), api.OK)
	for range 2 {
		if names, err := namesTold(t, was); !slices.Equal(names, []string{"b", "c", "d", "f"}) || err != api.OK {
			t.Errorf("got %q, %d", names, err)
		}
	}
	wantNames(t, v, 1, api.OK, "a", "b", "f")
	var got []string
	for name := range v.Names(1) {
		got = append(got, name)
		wantPut(t, v, gone(entry(1, name)), api.OK)
		wantPut(t, v, leads(entry(1, name+"x"), 2), api.OK)
		wantPut(t, v, gone(entry(1, "f")), api.OK)
	}
	if !slices.Equal(got, []string{"a", "b", "f"}) {
		t.Errorf("got %q", got)
	}
	wantNames(t, v, 1, api.OK, "ax", "bx", "fx")
}

// P14.3: one within another.
func TestNamesWithinNames(t *testing.T) {
	v := viewOf(t, named(1, "a", "c"), leads(entry(1, "b"), 2), leads(entry(2, "z"), 2))
	var got []string
	for name := range v.Names(1) {
		got = append(got, name)
		wantNames(t, v, 1, api.OK, "a", "b", "c")
		wantNames(t, v, 2, api.OK, "z")
	}
	if !slices.Equal(got, []string{"a", "b", "c"}) {
		t.Errorf("got %q", got)
	}
}
