package dir_test

import (
	"testing"

	"armoire/api"
)

// P19.2 to P19.5: ErrPath ahead of all, of what is no path, and of the root; nothing is read.
func TestNoPlace(t *testing.T) {
	for _, p := range append(wrongPaths(), "/") {
		wantPlaces(t, func() *rig { return treeOf(t, api.MaxPlaces) }, p, api.ErrPath)
		r := treeOf(t, api.MaxPlaces)
		for _, other := range []string{"/f", "/x", "/a", "/s", "/f/x", "/s/x", "/x/x", "/", "", p} {
			r.wantLink(other, p, api.ErrPath)
			r.wantRename(other, p, api.ErrPath)
			r.wantRename(p, other, api.ErrPath)
		}
		r.wantUnasked()
	}
}

// P19.2 to P19.5: the names above are gone down, the last one is looked up there.
func TestThePlaceIsNotThere(t *testing.T) {
	tree := func() *rig { return treeOf(t, api.MaxPlaces) }
	wantPlaces(t, tree, "/x/y", api.ErrNoEntry, name(1, "x"))
	wantPlaces(t, tree, "/a/x/y", api.ErrNoEntry, name(1, "a"), name(2, "x"))
	wantPlaces(t, tree, "/f/y", api.ErrNotDir, name(1, "f"))
	wantPlaces(t, tree, "/a/g/y", api.ErrNotDir, name(1, "a"), name(2, "g"))
	wantPlaces(t, tree, "/s/y", api.ErrStale, name(1, "s"))
	wantPlaces(t, tree, "/f/x/y", api.ErrNotDir, name(1, "f"))
	wantPlaces(t, func() *rig {
		r := tree()
		delete(r.base.values, recordKey(api.Root))
		return r
	}, "/a", api.ErrStale)
	wantPlaces(t, func() *rig {
		r := tree()
		r.base.values[recordKey(api.Root)] = valueOf(file(1, 0))
		return r
	}, "/a/b", api.ErrNotDir)
}

// P19.3 to P19.5: ErrNoEntry where there is none; that is read.
func TestThePlaceHasNoEntry(t *testing.T) {
	for _, x := range []struct {
		p    string
		read []api.Touch
	}{
		{"/x", []api.Touch{name(1, "x")}},
		{"/a/f", []api.Touch{name(1, "a"), name(2, "f")}},
		{"/e/a", []api.Touch{name(1, "e"), name(5, "a")}},
	} {
		for _, do := range placed(x.p, api.ErrNoEntry)[2:] {
			for _, wild := range []bool{false, true} {
				r := treeOf(t, api.MaxPlaces)
				r.base.wild = wild
				do(r)
				r.wantReadAlone(x.read...)
			}
		}
	}
}

// P19.3 to P19.5: where it is asked what an inode is that is not there, ErrStale; where its record fails, that.
func TestThePlaceLeadsToNothing(t *testing.T) {
	asks := func(p string, want api.Errno) []func(r *rig) {
		return []func(r *rig){
			func(r *rig) { r.wantUnlink(p, want) },
			func(r *rig) { r.wantRmdir(p, want) },
			func(r *rig) { r.wantRename(p, p+"/x", want) },
			func(r *rig) { r.wantLink(p, "/x", want) },
		}
	}
	for _, do := range asks("/s", api.ErrStale) {
		r := treeOf(t, api.MaxPlaces)
		do(r)
		r.wantReadAlone(name(1, "s"))
	}
	for _, fault := range faults {
		for p, ino := range map[string]uint32{"/f": 11, "/e": 5, "/s": 99} {
			for _, do := range asks(p, fault) {
				r := treeOf(t, api.MaxPlaces)
				r.base.faults[recordKey(ino)] = fault
				do(r)
				r.wantReadAlone(name(1, p[1:]))
			}
		}
	}
}
