package dir_test

import (
	"strings"
	"testing"

	"armoire/api"
	"armoire/dir"
)

// P19.1: the root is Root, without anything read; also one that does not stand there.
func TestFindTheRoot(t *testing.T) {
	r := treeOf(t, 0)
	r.wantFind("/", api.Root, api.OK)
	r.wantUnasked()
	delete(r.base.values, recordKey(api.Root))
	r.wantFind("/", api.Root, api.OK)
	r.wantUnasked()
}

// P19.1: each name on the way is read, where it stands.
func TestFind(t *testing.T) {
	for _, x := range []struct {
		p    string
		want uint32
		read []api.Touch
	}{
		{"/a", 2, []api.Touch{name(1, "a")}},
		{"/e", 5, []api.Touch{name(1, "e")}},
		{"/f", 11, []api.Touch{name(1, "f")}},
		{"/a/b", 3, []api.Touch{name(1, "a"), name(2, "b")}},
		{"/a/g", 11, []api.Touch{name(1, "a"), name(2, "g")}},
		{"/a/b/c", 4, []api.Touch{name(1, "a"), name(2, "b"), name(3, "c")}},
		{"/a/b/h", 12, []api.Touch{name(1, "a"), name(2, "b"), name(3, "h")}},
		// Whether the last one stands there is not asked.
		{"/s", 99, []api.Touch{name(1, "s")}},
	} {
		r := treeOf(t, 0)
		r.wantFind(x.p, x.want, api.OK)
		r.wantReadAlone(x.read...)
		r.wantFind(x.p, x.want, api.OK)
		r.wantReadAlone()
	}
}

// P19.1: as many names, and as many bytes, as a path may have.
func TestFindWhatIsLong(t *testing.T) {
	r := rigOf(t, 0)
	var read []api.Touch
	for in := uint32(1); in < 7; in++ {
		r.has(in, "12345678", in+1, directory())
		read = append(read, name(in, "12345678"))
	}
	r.wantFind(strings.Repeat("/12345678", 6), 7, api.OK)
	r.wantReadAlone(read...)
}

// P19.1: a name may have any bytes but 0 and '/'.
func TestFindAnyBytes(t *testing.T) {
	for _, n := range []string{"...", " ", "\xff\xfe", "ä", "\x01", "A", ".a"} {
		r := treeOf(t, 0)
		r.has(2, n, 40, file(1, 0))
		r.wantFind("/a/"+n, 40, api.OK)
		r.wantReadAlone(name(1, "a"), name(2, n))
	}
}

// P19.1: ErrPath ahead of all; nothing is read.
func TestFindNoPath(t *testing.T) {
	r := treeOf(t, 0)
	for _, p := range wrongPaths() {
		r.wantFind(p, 0, api.ErrPath)
		r.wantList(p, api.ErrPath)
	}
	r.wantUnasked()
}

// P19.1: ErrNoEntry; that the name is not there was read, and nothing behind it.
func TestFindNoEntry(t *testing.T) {
	for _, x := range []struct {
		p    string
		read []api.Touch
	}{
		{"/x", []api.Touch{name(1, "x")}},
		{"/A", []api.Touch{name(1, "A")}},
		{"/aa", []api.Touch{name(1, "aa")}},
		{"/x/a", []api.Touch{name(1, "x")}},
		{"/a/a", []api.Touch{name(1, "a"), name(2, "a")}},
		{"/a/x/b", []api.Touch{name(1, "a"), name(2, "x")}},
		{"/a/b/x", []api.Touch{name(1, "a"), name(2, "b"), name(3, "x")}},
		{"/e/x/y/z", []api.Touch{name(1, "e"), name(5, "x")}},
	} {
		for _, wild := range []bool{false, true} {
			r := treeOf(t, 0)
			r.base.wild = wild
			r.wantFind(x.p, 0, api.ErrNoEntry)
			r.wantReadAlone(x.read...)
			r.wantList(x.p, api.ErrNoEntry)
			r.wantReadAlone()
		}
	}
}

// P19.1: below a file, and below nothing, no name is looked up.
func TestFindBelowNoDirectory(t *testing.T) {
	for _, x := range []struct {
		p    string
		want api.Errno
		read []api.Touch
	}{
		{"/f/x", api.ErrNotDir, []api.Touch{name(1, "f")}},
		{"/f/x/y", api.ErrNotDir, []api.Touch{name(1, "f")}},
		{"/a/b/h/a", api.ErrNotDir, []api.Touch{name(1, "a"), name(2, "b"), name(3, "h")}},
		{"/s/x", api.ErrStale, []api.Touch{name(1, "s")}},
		{"/s/x/y", api.ErrStale, []api.Touch{name(1, "s")}},
	} {
		r := treeOf(t, 0)
		r.wantFind(x.p, 0, x.want)
		r.wantReadAlone(x.read...)
		r.wantList(x.p, x.want)
		r.wantReadAlone()
	}
	r := treeOf(t, 0)
	delete(r.base.values, recordKey(api.Root))
	r.wantFind("/a", 0, api.ErrStale)
	r.wantList("/", api.ErrStale)
	r.wantReadAlone()
}

// P19.1: what the sight itself has written is seen.
func TestFindWhatWasWritten(t *testing.T) {
	r := treeOf(t, api.MaxPlaces)
	r.put(leads(1, "n", 3), goneEntry(1, "f"), leads(2, "b", 5), fresh(99, directory()), goneRecord(3), leads(99, "y", 12))
	r.wantFind("/n", 3, api.OK)
	r.wantFind("/f", 0, api.ErrNoEntry)
	r.wantFind("/a/b", 5, api.OK)
	r.wantFind("/s/y", 12, api.OK)
	r.wantFind("/n/c", 0, api.ErrStale)
	r.wantReadAlone(name(1, "n"), name(1, "f"), name(1, "a"), name(2, "b"), name(1, "s"), name(99, "y"))
}

// P19.1: all names of a directory, rising; all are read, behind those on the way.
func TestList(t *testing.T) {
	r := treeOf(t, api.MaxPlaces)
	r.wantList("/", api.OK, "a", "e", "f", "l", "s")
	r.wantReadAlone(names(1))
	r.wantList("/a", api.OK, "b", "g")
	r.wantReadAlone(name(1, "a"), names(2))
	r.wantList("/a/b", api.OK, "c", "h")
	r.wantReadAlone(name(2, "b"), names(3))
	r.wantList("/e", api.OK)
	r.wantReadAlone(name(1, "e"), names(5))
	r.put(goneEntry(1, "e"), leads(1, "Z", 40), leads(1, "aa", 40), leads(1, "f", 40), leads(1, "zz", 40), leads(5, "x", 40), goneEntry(2, "b"), goneEntry(2, "g"))
	r.wantList("/", api.OK, "Z", "a", "aa", "f", "l", "s", "zz")
	r.wantList("/a", api.OK)
	r.wantReadAlone()
}

// P19.1: of what is no directory nothing is read but the way there.
func TestListNoDirectory(t *testing.T) {
	r := treeOf(t, 0)
	r.wantList("/f", api.ErrNotDir)
	r.wantReadAlone(name(1, "f"))
	r.wantList("/a/b/h", api.ErrNotDir)
	r.wantReadAlone(name(1, "a"), name(2, "b"), name(3, "h"))
	r.wantList("/s", api.ErrStale)
	r.wantReadAlone(name(1, "s"))
	r = treeOf(t, 0)
	r.base.values[recordKey(api.Root)] = valueOf(file(1, 0))
	r.wantList("/", api.ErrNotDir)
	r.wantReadAlone()
}

// P19.1: an error among the names is handed on, without those ahead of it; that they are read was said.
func TestListFails(t *testing.T) {
	for _, fault := range faults {
		for behind := range 5 {
			r := treeOf(t, 0)
			r.base.ends[1] = end{behind, fault}
			r.wantList("/", fault)
			r.wantReadAlone(names(1))
		}
	}
	// What is behind them does not matter.
	r := treeOf(t, 0)
	r.base.ends[1] = end{6, api.ErrDown}
	r.wantList("/", api.OK, "a", "e", "f", "l", "s")
}

// P19.1: an answer is one's own.
func TestListIsOnesOwn(t *testing.T) {
	r := treeOf(t, api.MaxPlaces)
	l, _ := dir.List(r.sight, "/a")
	l[0] = "x"
	for range append(l, "y", "z") {
	}
	r.wantList("/a", api.OK, "b", "g")
}

// P19.1 to P19.5: errors of the view on the way are handed on; what was read till then is.
func TestTheWayFails(t *testing.T) {
	for _, fault := range faults {
		for _, wild := range []bool{false, true} {
			for _, x := range []struct {
				key  string
				read []api.Touch
			}{
				{recordKey(1), nil},
				{entryKey(1, "a"), []api.Touch{name(1, "a")}},
				{recordKey(2), []api.Touch{name(1, "a")}},
				{entryKey(2, "b"), []api.Touch{name(1, "a"), name(2, "b")}},
				{recordKey(3), []api.Touch{name(1, "a"), name(2, "b")}},
				{entryKey(3, "h"), []api.Touch{name(1, "a"), name(2, "b"), name(3, "h")}},
			} {
				make := func() *rig {
					r := treeOf(t, api.MaxPlaces)
					r.base.faults[x.key], r.base.wild = fault, wild
					return r
				}
				wantPlaces(t, make, "/a/b/h", fault, x.read...)
				r := make()
				r.wantFind("/a/b/h", 0, fault)
				r.wantList("/a/b/h", fault)
				r.wantLink("/a/b/h", "/x", fault)
				r.wantReadAlone(x.read...)
			}
		}
	}
}

// P19.1: what stands there and may not be is ErrForm.
func TestTheWayIsNoWay(t *testing.T) {
	for _, key := range []string{recordKey(1), entryKey(1, "a"), recordKey(2), entryKey(2, "b")} {
		for _, value := range []string{"", "\x00\x00\x00\x00", "\x00\x00\x02", "no item"} {
			r := treeOf(t, 0)
			r.base.values[key] = value
			r.wantFind("/a/b", 0, api.ErrForm)
			r.wantList("/a/b", api.ErrForm)
			r.wantUnlink("/a/b", api.ErrForm)
		}
	}
}
