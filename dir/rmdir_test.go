package dir_test

import (
	"testing"

	"armoire/api"
)

// P19.4: an empty directory goes, with its name; all names in it were read.
func TestRmdir(t *testing.T) {
	r := treeOf(t, api.MaxPlaces)
	r.wantRmdir("/a/b/c", api.OK)
	r.wantPuts(goneEntry(3, "c"), goneRecord(4))
	r.wantRead(name(1, "a"), name(2, "b"), name(3, "c"), names(4))
	r.wantWritten(name(3, "c"), of(4, api.All))
	r.wantInode(4, api.Inode{})
	r.wantFind("/a/b/c", 0, api.ErrNoEntry)
	r.wantRmdir("/a/b/c", api.ErrNoEntry)
	r.wantReadAlone()
	r.wantList("/a/b", api.OK, "h")
	r.wantPutsBackwards()
}

// P19.4: ErrNotDir of a file, ErrNotEmpty of a directory with names.
func TestRmdirRefused(t *testing.T) {
	r := treeOf(t, api.MaxPlaces)
	r.wantRmdir("/f", api.ErrNotDir)
	r.wantReadAlone(name(1, "f"))
	r.wantRmdir("/a/g", api.ErrNotDir)
	r.wantReadAlone(name(1, "a"), name(2, "g"))
	r.wantRmdir("/a/b", api.ErrNotEmpty)
	r.wantReadAlone(name(2, "b"), names(3))
	r.wantRmdir("/a", api.ErrNotEmpty)
	r.wantReadAlone(names(2))
	r.wantRmdir("/", api.ErrPath)
	r.wantReadAlone()
}

// P19.4: what the sight itself has written counts; also an entry that leads to nothing is one.
func TestRmdirOfWhatWasWritten(t *testing.T) {
	r := treeOf(t, api.MaxPlaces)
	r.put(leads(5, "x", 99))
	r.wantRmdir("/e", api.ErrNotEmpty)
	r.wantReadAlone(name(1, "e"), names(5))
	r.put(goneEntry(5, "x"))
	r.wantRmdir("/e", api.OK)
	r.wantPuts(goneEntry(1, "e"), goneRecord(5))
	r.wantWritten(name(1, "e"), of(5, api.All))
	r.put(goneEntry(2, "b"), goneEntry(2, "g"))
	r.wantRmdir("/a", api.OK)
	r.wantPuts(goneEntry(1, "a"), goneRecord(2))
	r.wantRead(name(1, "a"), names(2))
	r.wantWritten(name(1, "a"), of(2, api.All))
}

// P19.4: an error among the names is handed on, also behind one: all of them are read ahead of asking whether there is one.
func TestRmdirFails(t *testing.T) {
	for _, fault := range faults {
		r := treeOf(t, api.MaxPlaces)
		r.base.ends[5] = end{0, fault}
		r.wantRmdir("/e", fault)
		r.wantReadAlone(name(1, "e"), names(5))
		for behind := range 2 {
			r := treeOf(t, api.MaxPlaces)
			r.base.ends[2] = end{behind, fault}
			r.wantRmdir("/a", fault)
			r.wantReadAlone(name(1, "a"), names(2))
		}
	}
}

// P19.4: what was put in ahead of an error of Put is so.
func TestRmdirTooBig(t *testing.T) {
	r := treeOf(t, 0)
	r.wantRmdir("/e", api.ErrTooBig)
	r.wantReadAlone(name(1, "e"), names(5))
	r = treeOf(t, 1)
	r.wantRmdir("/e", api.ErrTooBig)
	r.wantPuts(goneEntry(1, "e"))
	r.wantRead(name(1, "e"), names(5))
	r.wantWritten(name(1, "e"))
	r = treeOf(t, 2)
	r.wantRmdir("/e", api.OK)
	r.wantPuts(goneEntry(1, "e"), goneRecord(5))
	r.wantWritten(name(1, "e"), of(5, api.All))
}
