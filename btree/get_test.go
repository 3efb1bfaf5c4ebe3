package btree_test

import (
	"fmt"
	"slices"
	"strings"
	"testing"

	"armoire/api"
	"armoire/btree"
)

// shape is a tree that was laid down by hand.
type shape struct {
	name string
	r    *room
	root uint32
	list []api.KV
}

// shapes are trees of the pairs 100, 110, 120, ..: with as much in each page as may be, with as little, and between, parted by keys that are there and by keys that are not.
func shapes() []shape {
	var l []shape
	for _, count := range []int{0, 1, 2, 5, 9, 10, 11, 12, 15, 20, 50, 110, 240, 241, 700, 1500} {
		for _, size := range []struct{ leaf, kids int }{{api.LeafMin, api.KidsMin}, {7, 17}, {api.LeafMax, api.KidsMax}} {
			for name, part := range map[string]func(string) string{"same": same, "lower": lower} {
				r := newRoom()
				list := pairs(100, count, 10)
				root := r.build(list, size.leaf, size.kids, part)
				l = append(l, shape{fmt.Sprint(count, " pairs, ", size, ", ", name), r, root, list})
			}
		}
	}
	return l
}

// askedKeys are keys to ask a tree of the pairs list for.
func askedKeys(list []api.KV) []string {
	asked := []string{"", "0", key(0), key(99), strings.Repeat("\x00", api.MaxKey), strings.Repeat("\xff", api.MaxKey), strings.Repeat("\xff", api.MaxKey+1), "\xff"}
	for _, kv := range list {
		k := kv.Key
		asked = append(asked, k, lower(k), k[:api.MaxKey-1], k+"\x00", k[:api.MaxKey-1]+"5", k[:api.MaxKey-2]+"5\xff")
	}
	return asked
}

// P9.1: whether a key is there, and its value; keys that are there, below all, between two, above all, those which part two kids, of no bytes, of fewer and more than MaxKey.
func TestGet(t *testing.T) {
	for _, s := range shapes() {
		values := map[string]string{}
		for _, kv := range s.list {
			values[kv.Key] = kv.Value
		}
		for _, k := range askedKeys(s.list) {
			v, is := values[k]
			wantGet(t, s.r, s.root, k, v, is)
		}
		wantWhole(t, s.r)
	}
}

// P9.1: a value may have no bytes, or MaxValue; keys are bytes of any kind.
func TestGetValue(t *testing.T) {
	r := newRoom()
	zeros, high := strings.Repeat("\x00", api.MaxKey), strings.Repeat("\xff", api.MaxKey)
	long := strings.Repeat("\xff", api.MaxValue)
	root := r.add(leaf([]api.KV{{Key: zeros}, {Key: high, Value: long}}))
	wantGet(t, r, root, zeros, "", true)
	wantGet(t, r, root, high, long, true)
	wantGet(t, r, root, high[1:], "", false)
	wantFrom(t, r, root, high, []api.KV{{Key: high, Value: long}})
	wantFrom(t, r, root, high+"\x00", nil)
}

// P9.1: From goes through the pairs whose keys are not below key, by their keys.
func TestFrom(t *testing.T) {
	for _, s := range shapes() {
		for _, k := range askedKeys(s.list) {
			at := 0
			for at < len(s.list) && s.list[at].Key < k {
				at++
			}
			if len(s.list) > 300 && at > 40 && at < len(s.list)-40 {
				continue
			}
			wantFrom(t, s.r, s.root, k, s.list[at:])
		}
		wantWhole(t, s.r)
	}
}

// P9.1: breaking it off is fine: at each pair, the first one, the last one of a leaf, the last one of all; it is begun anew behind that.
func TestFromBroken(t *testing.T) {
	for _, s := range shapes() {
		if len(s.list) > 240 {
			continue
		}
		seq := btree.From(s.r, s.root, "")
		for stop := range s.list {
			var got []api.KV
			for kv, err := range seq {
				if err != api.OK {
					t.Fatalf("%s: got the error %d", s.name, err)
				}
				got = append(got, kv)
				if len(got) > stop {
					break
				}
			}
			if !slices.Equal(got, s.list[:stop+1]) {
				t.Fatalf("%s: broken off at %d: got %v", s.name, stop, got)
			}
		}
	}
}

// P9.1: one From within another, and with Puts and Dels meanwhile: the tree is what it was.
func TestFromMeanwhile(t *testing.T) {
	r := newRoom()
	list := pairs(0, 130, 2)
	root := r.build(list, 6, 13, same)
	next := root
	at := 0
	for kv, err := range btree.From(r, root, "") {
		if err != api.OK || kv != list[at] {
			t.Fatalf("got %v, %d, want %v", kv, err, list[at])
		}
		if at%10 == 0 {
			wantFrom(t, r, root, kv.Key, list[at:])
		}
		next = wantPut(t, r, next, pair(2*at+1), true)
		next = wantDel(t, r, next, kv.Key)
		at++
	}
	if at != len(list) {
		t.Errorf("got %d pairs", at)
	}
	wantTree(t, r, next, pairs(1, 130, 2))
	wantTree(t, r, root, list)
}

// P9.1, P9.2: of the tree 0 nothing is read.
func TestNone(t *testing.T) {
	r := newRoom()
	for _, k := range askedKeys(pairs(1, 1, 1)) {
		wantGet(t, r, 0, k, "", false)
		wantFrom(t, r, 0, k, nil)
		wantNoDel(t, r, 0, k)
	}
	wantTree(t, r, 0, nil)
	if len(r.calls) > 0 {
		t.Errorf("got the calls %v", r.calls)
	}
}
