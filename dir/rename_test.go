package dir_test

import (
	"testing"

	"armoire/api"
)

// P19.5: the name is another one; the inode is not touched, whatever it is.
func TestRename(t *testing.T) {
	for _, x := range []struct {
		old, p        string
		away, set     api.Change
		read, written []api.Touch
	}{
		{"/f", "/n", goneEntry(1, "f"), leads(1, "n", 11), []api.Touch{name(1, "f"), name(1, "n")}, []api.Touch{name(1, "f"), name(1, "n")}},
		{"/a/g", "/e/g", goneEntry(2, "g"), leads(5, "g", 11), []api.Touch{name(1, "a"), name(2, "g"), name(1, "e"), name(5, "g")}, []api.Touch{name(2, "g"), name(5, "g")}},
		{"/a", "/e/a", goneEntry(1, "a"), leads(5, "a", 2), []api.Touch{name(1, "a"), name(1, "e"), name(5, "a")}, []api.Touch{name(1, "a"), name(5, "a")}},
		{"/a/b", "/b", goneEntry(2, "b"), leads(1, "b", 3), []api.Touch{name(1, "a"), name(2, "b"), name(1, "b")}, []api.Touch{name(2, "b"), name(1, "b")}},
		{"/a/b/c", "/a/c", goneEntry(3, "c"), leads(2, "c", 4), []api.Touch{name(1, "a"), name(2, "b"), name(3, "c"), name(2, "c")}, []api.Touch{name(3, "c"), name(2, "c")}},
		{"/a", "/aa", goneEntry(1, "a"), leads(1, "aa", 2), []api.Touch{name(1, "a"), name(1, "aa")}, []api.Touch{name(1, "a"), name(1, "aa")}},
		// Whether the inode stands there is not asked.
		{"/s", "/a/s", goneEntry(1, "s"), leads(2, "s", 99), []api.Touch{name(1, "s"), name(1, "a"), name(2, "s")}, []api.Touch{name(1, "s"), name(2, "s")}},
		// Two places that hold each other's name.
		{"/e", "/a/e", goneEntry(1, "e"), leads(2, "e", 5), []api.Touch{name(1, "e"), name(1, "a"), name(2, "e")}, []api.Touch{name(1, "e"), name(2, "e")}},
	} {
		r := treeOf(t, api.MaxPlaces)
		r.wantRename(x.old, x.p, api.OK)
		r.wantPuts(x.away, x.set)
		r.wantRead(x.read...)
		r.wantWritten(x.written...)
		r.wantGiven(0)
		r.wantFind(x.p, x.set.To, api.OK)
		r.wantFind(x.old, 0, api.ErrNoEntry)
		r.wantPutsBackwards()
	}
}

// P19.5: old's errors, then ErrLoop, then those of p, then ErrExists.
func TestRenameRefused(t *testing.T) {
	for _, x := range []struct {
		old, p string
		want   api.Errno
		read   []api.Touch
	}{
		{"/x", "/x", api.ErrNoEntry, []api.Touch{name(1, "x")}},
		{"/x", "/x/y", api.ErrNoEntry, []api.Touch{name(1, "x")}},
		{"/x", "/a", api.ErrNoEntry, []api.Touch{name(1, "x")}},
		{"/x", "/f/y", api.ErrNoEntry, []api.Touch{name(1, "x")}},
		{"/f/x", "/n", api.ErrNotDir, []api.Touch{name(1, "f")}},
		{"/s/x", "/n", api.ErrStale, []api.Touch{name(1, "s")}},
		{"/a", "/a/n", api.ErrLoop, []api.Touch{name(1, "a")}},
		{"/a", "/a/b", api.ErrLoop, []api.Touch{name(1, "a")}},
		{"/a", "/a/b/c/n", api.ErrLoop, []api.Touch{name(1, "a")}},
		{"/a", "/a/x/y", api.ErrLoop, []api.Touch{name(1, "a")}},
		{"/a", "/a/g/y", api.ErrLoop, []api.Touch{name(1, "a")}},
		{"/e", "/e/n", api.ErrLoop, []api.Touch{name(1, "e")}},
		{"/a/b", "/a/b/n", api.ErrLoop, []api.Touch{name(1, "a"), name(2, "b")}},
		{"/f", "/f/n", api.ErrNotDir, []api.Touch{name(1, "f")}},
		{"/f", "/f/n/m", api.ErrNotDir, []api.Touch{name(1, "f")}},
		{"/s", "/s/n", api.ErrStale, []api.Touch{name(1, "s")}},
		{"/f", "/x/n", api.ErrNoEntry, []api.Touch{name(1, "f"), name(1, "x")}},
		{"/a", "/f/n", api.ErrNotDir, []api.Touch{name(1, "a"), name(1, "f")}},
		{"/a", "/s/n", api.ErrStale, []api.Touch{name(1, "a"), name(1, "s")}},
		{"/f", "/f", api.ErrExists, []api.Touch{name(1, "f")}},
		{"/a", "/a", api.ErrExists, []api.Touch{name(1, "a")}},
		{"/s", "/s", api.ErrExists, []api.Touch{name(1, "s")}},
		{"/a/b", "/a", api.ErrExists, []api.Touch{name(1, "a"), name(2, "b")}},
		{"/f", "/a/g", api.ErrExists, []api.Touch{name(1, "f"), name(1, "a"), name(2, "g")}},
		{"/f", "/s", api.ErrExists, []api.Touch{name(1, "f"), name(1, "s")}},
		{"/e", "/a/b/c", api.ErrExists, []api.Touch{name(1, "e"), name(1, "a"), name(2, "b"), name(3, "c")}},
	} {
		r := treeOf(t, api.MaxPlaces)
		r.wantRename(x.old, x.p, x.want)
		r.wantReadAlone(x.read...)
	}
}

// P19.5: what old leads to is asked only where p stands below it.
func TestRenameAsksNoKind(t *testing.T) {
	for _, p := range []string{"/n", "/e/n", "/aa"} {
		r := treeOf(t, api.MaxPlaces)
		r.base.faults[recordKey(2)] = api.ErrDown
		r.wantRename("/a", p, api.OK)
	}
	r := treeOf(t, api.MaxPlaces)
	r.base.faults[recordKey(2)] = api.ErrDown
	r.wantRename("/a", "/a/n", api.ErrDown)
	r.wantReadAlone(name(1, "a"))
	// The names count, not where they lead: a directory of the same name elsewhere is none below.
	r = treeOf(t, api.MaxPlaces)
	r.has(5, "a", 6, directory())
	r.wantRename("/a", "/e/a/n", api.OK)
}

// P19.5: an error of p's place is handed on.
func TestRenameFails(t *testing.T) {
	for _, fault := range faults {
		r := treeOf(t, api.MaxPlaces)
		r.base.faults[entryKey(5, "n")] = fault
		r.wantRename("/f", "/e/n", fault)
		r.wantLink("/f", "/e/n", fault)
		r.wantReadAlone(name(1, "f"), name(1, "e"), name(5, "n"))
		r = treeOf(t, api.MaxPlaces)
		r.base.faults[recordKey(5)] = fault
		r.wantRename("/f", "/e/n", fault)
		r.wantReadAlone(name(1, "f"), name(1, "e"))
	}
}

// P19.5: what was put in ahead of an error of Put is so.
func TestRenameTooBig(t *testing.T) {
	r := treeOf(t, 0)
	r.wantRename("/f", "/n", api.ErrTooBig)
	r.wantReadAlone(name(1, "f"), name(1, "n"))
	r = treeOf(t, 1)
	r.wantRename("/f", "/n", api.ErrTooBig)
	r.wantPuts(goneEntry(1, "f"))
	r.wantRead(name(1, "f"), name(1, "n"))
	r.wantWritten(name(1, "f"))
	r = treeOf(t, 2)
	r.wantRename("/f", "/n", api.OK)
	r.wantPuts(goneEntry(1, "f"), leads(1, "n", 11))
	r.wantWritten(name(1, "f"), name(1, "n"))
}
