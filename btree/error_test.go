package btree_test

import (
	"slices"
	"testing"

	"armoire/api"
	"armoire/btree"
)

// wantFails does something with an error at each call of Pages in turn: it is handed on, no call is made behind it, and those ahead of it are the same as without it. It tells of which kinds the calls were.
func wantFails(t *testing.T, r *room, do func(r *room) api.Errno) string {
	t.Helper()
	good := r.clone()
	if err := do(good); err != api.OK {
		t.Fatalf("without an error: got %d", err)
	}
	kinds := ""
	for i, c := range good.calls {
		bad := r.clone()
		bad.failAt = i + 1
		if err := do(bad); err != bad.with || bad.failed != c.kind {
			t.Fatalf("the call %d, %v: got %d", i, c, err)
		}
		if !slices.Equal(bad.calls, good.calls[:i]) {
			t.Fatalf("the call %d: behind %v, want %v", i, bad.calls, good.calls[:i])
		}
		wantWhole(t, bad)
		kinds += string(c.kind)
	}
	return kinds
}

// some are trees of one page and of several levels, with pages as full and as empty as may be.
func some() []shape {
	return slices.DeleteFunc(shapes(), func(s shape) bool { return len(s.list) == 0 || len(s.list) > 300 && len(s.list) != 1500 })
}

// P9.4, R2: an error of Read, in Get.
func TestGetFails(t *testing.T) {
	for _, s := range some() {
		for _, k := range []string{"", key(99), s.list[0].Key, s.list[len(s.list)/2].Key, s.list[len(s.list)-1].Key + "\x00"} {
			kinds := wantFails(t, s.r, func(r *room) api.Errno {
				v, is, err := btree.Get(r, s.root, k)
				if err != api.OK && (v != "" || is) {
					t.Errorf("%s: Get(%q): got %q, %v, %d", s.name, k, v, is, err)
				}
				return err
			})
			if kinds == "" {
				t.Errorf("%s: Get(%q): nothing was read", s.name, k)
			}
		}
	}
}

// P9.1: an error of Read, in From: the pairs ahead of it, then an empty pair with it, then nothing.
func TestFromFails(t *testing.T) {
	for _, s := range some() {
		if len(s.list) > 300 {
			continue
		}
		for _, at := range []int{0, len(s.list) / 2, len(s.list) - 1} {
			wantFails(t, s.r, func(r *room) api.Errno {
				told := s.list[at:]
				end := api.OK
				for kv, err := range btree.From(r, s.root, s.list[at].Key) {
					if end != api.OK {
						t.Fatalf("%s: %v, %d behind the error", s.name, kv, err)
					}
					if end = err; err == api.OK && kv != told[0] || err != api.OK && kv != (api.KV{}) {
						t.Fatalf("%s: got %v, %d", s.name, kv, err)
					}
					if err == api.OK {
						told = told[1:]
					}
				}
				if end == api.OK && len(told) > 0 {
					t.Fatalf("%s: %v is not told", s.name, told)
				}
				return end
			})
		}
	}
}

// P9.4, R2: an error of Read, of Write, of Drop, in Put: where a leaf has room, and where all pages on the way are cut in two.
func TestPutFails(t *testing.T) {
	all := ""
	for _, s := range some() {
		for _, n := range []int{5, 100, 105, 105 + 10*(len(s.list)/2), 105 + 10*len(s.list)} {
			all += wantFails(t, s.r, func(r *room) api.Errno {
				next, is, err := btree.Put(r, s.root, pair(n))
				if err != api.OK && (next != 0 || is) {
					t.Errorf("%s: Put(%d): got %d, %v, %d", s.name, n, next, is, err)
				}
				return err
			})
		}
		wantTree(t, s.r, s.root, s.list)
	}
	wantKinds(t, all, "rwd")
	wantKinds(t, wantFails(t, newRoom(), func(r *room) api.Errno {
		_, _, err := btree.Put(r, 0, pair(1))
		return err
	}), "w")
}

// P9.4, R2: the same in Del: where a leaf has more than LeafMin pairs, and where it is joined with the one beside it, up to the root.
func TestDelFails(t *testing.T) {
	all := ""
	for _, s := range some() {
		for _, kv := range []api.KV{s.list[0], s.list[len(s.list)/2], s.list[len(s.list)-1], {Key: key(7)}} {
			kinds := wantFails(t, s.r, func(r *room) api.Errno {
				next, is, err := btree.Del(r, s.root, kv.Key)
				if err != api.OK && (next != 0 || is) {
					t.Errorf("%s: Del(%q): got %d, %v, %d", s.name, kv.Key, next, is, err)
				}
				return err
			})
			if kv.Key == key(7) {
				wantKinds(t, kinds, "r")
			}
			all += kinds
		}
		wantTree(t, s.r, s.root, s.list)
	}
	wantKinds(t, all, "rwd")
}

// P9.4, P9.5, R2: an error of Read, in Reach and in Check.
func TestReachFails(t *testing.T) {
	for _, s := range some() {
		if len(s.list) > 300 {
			continue
		}
		wantKinds(t, wantFails(t, s.r, func(r *room) api.Errno {
			ids, err := btree.Reach(r, s.root)
			if err != api.OK && len(ids) > 0 {
				t.Errorf("%s: Reach: got %v, %d", s.name, ids, err)
			}
			return err
		}), "r")
		wantKinds(t, wantFails(t, s.r, func(r *room) api.Errno {
			n, err := btree.Check(r, s.root)
			if err != api.OK && n != 0 {
				t.Errorf("%s: Check: got %d, %d", s.name, n, err)
			}
			return err
		}), "r")
	}
}

// wantKinds looks whether calls of just these kinds were made.
func wantKinds(t *testing.T, calls, want string) {
	t.Helper()
	for _, kind := range "rwd" {
		if slices.Contains([]rune(calls), kind) != slices.Contains([]rune(want), kind) {
			t.Errorf("calls of Pages: got %q, want %q", calls, want)
		}
	}
}

// P9.4: whatever number the error has, it is handed on.
func TestErrorNumbers(t *testing.T) {
	r := newRoom()
	root := r.build(pairs(0, 100, 1), 5, 12, same)
	for _, with := range []api.Errno{api.ErrArg, api.ErrNone, api.ErrFull, api.ErrSum, api.ErrDown, api.ErrPage, api.ErrDevice, -1, 1 << 30} {
		for _, failAt := range []int{1, 2, 3} {
			c := r.clone()
			c.with, c.failAt = with, failAt
			if _, _, err := btree.Del(c, root, key(50)); err != with {
				t.Errorf("Del: got %d, want %d", err, with)
			}
		}
	}
}
