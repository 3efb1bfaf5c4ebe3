package dir_test

import (
	"testing"

	"armoire/api"
)

// P19.3: another name: the file's Links is one more.
func TestLink(t *testing.T) {
	r := treeOf(t, api.MaxPlaces)
	r.wantLink("/a/g", "/a/b/n", api.OK)
	r.wantPuts(linked(11, 3), leads(3, "n", 11))
	r.wantRead(name(1, "a"), name(2, "g"), name(2, "b"), name(3, "n"), of(11, api.Links))
	r.wantWritten(of(11, api.Links), name(3, "n"))
	r.wantInode(11, file(3, 40))
	r.wantFind("/a/b/n", 11, api.OK)
	r.wantFind("/a/g", 11, api.OK)
	r.wantFind("/f", 11, api.OK)
	r.wantRead(name(1, "f"))
	r.wantPutsBackwards()
}

// P19.3: Parent(p)'s ErrPath, then the errors of Find(old), then ErrIsDir, then those of p's place, then ErrExists, then ErrLinks.
func TestLinkRefused(t *testing.T) {
	for _, x := range []struct {
		old, p string
		want   api.Errno
		read   []api.Touch
	}{
		{"", "/n", api.ErrPath, nil},
		{"/a/", "/x/n", api.ErrPath, nil},
		{"/x", "/", api.ErrPath, nil},
		{"/x", "/n", api.ErrNoEntry, []api.Touch{name(1, "x")}},
		{"/x", "/f/n", api.ErrNoEntry, []api.Touch{name(1, "x")}},
		{"/x", "/a", api.ErrNoEntry, []api.Touch{name(1, "x")}},
		{"/f/x", "/n", api.ErrNotDir, []api.Touch{name(1, "f")}},
		{"/s/x", "/n", api.ErrStale, []api.Touch{name(1, "s")}},
		{"/s", "/f/n", api.ErrStale, []api.Touch{name(1, "s")}},
		{"/", "/n", api.ErrIsDir, nil},
		{"/", "/a", api.ErrIsDir, nil},
		{"/a", "/n", api.ErrIsDir, []api.Touch{name(1, "a")}},
		{"/a", "/a", api.ErrIsDir, []api.Touch{name(1, "a")}},
		{"/a", "/f/n", api.ErrIsDir, []api.Touch{name(1, "a")}},
		{"/a/b", "/x/n", api.ErrIsDir, []api.Touch{name(1, "a"), name(2, "b")}},
		{"/f", "/x/n", api.ErrNoEntry, []api.Touch{name(1, "f"), name(1, "x")}},
		{"/f", "/f/n", api.ErrNotDir, []api.Touch{name(1, "f")}},
		{"/f", "/s/n", api.ErrStale, []api.Touch{name(1, "f"), name(1, "s")}},
		{"/f", "/f", api.ErrExists, []api.Touch{name(1, "f")}},
		{"/f", "/s", api.ErrExists, []api.Touch{name(1, "f"), name(1, "s")}},
		{"/f", "/a/b", api.ErrExists, []api.Touch{name(1, "f"), name(1, "a"), name(2, "b")}},
		{"/l", "/a/g", api.ErrExists, []api.Touch{name(1, "l"), name(1, "a"), name(2, "g")}},
		{"/l", "/n", api.ErrLinks, []api.Touch{name(1, "l"), name(1, "n"), of(13, api.Links)}},
	} {
		r := treeOf(t, api.MaxPlaces)
		r.wantLink(x.old, x.p, x.want)
		r.wantReadAlone(x.read...)
	}
}

// P19.3: a file with 14 links becomes one with 15, and no more.
func TestLinkUpToTheMost(t *testing.T) {
	r := rigOf(t, api.MaxPlaces)
	r.has(1, "f", 2, file(1, 0))
	for n := 2; n <= 15; n++ {
		r.wantLink("/f", "/"+string(rune('a'+n*2)), api.OK)
		r.wantInode(2, file(n, 0))
	}
	r.wantLink("/f", "/a", api.ErrLinks)
	r.wantFind("/a", 0, api.ErrNoEntry)
	r.wantUnlink("/f", api.OK)
	r.wantLink("/e", "/a", api.OK)
	r.wantInode(2, file(15, 0))
}

// P19.3: what was put in ahead of an error of Put is so.
func TestLinkTooBig(t *testing.T) {
	r := treeOf(t, 0)
	r.wantLink("/f", "/n", api.ErrTooBig)
	r.wantReadAlone(name(1, "f"), name(1, "n"), of(11, api.Links))
	r = treeOf(t, 1)
	r.wantLink("/f", "/n", api.ErrTooBig)
	r.wantPuts(linked(11, 3))
	r.wantWritten(of(11, api.Links))
	r = treeOf(t, 2)
	r.wantLink("/f", "/n", api.OK)
	r.wantPuts(linked(11, 3), leads(1, "n", 11))
	r.wantWritten(of(11, api.Links), name(1, "n"))
}

// P19.3: a name is taken away: the file's Links is one less.
func TestUnlink(t *testing.T) {
	r := treeOf(t, api.MaxPlaces)
	r.wantUnlink("/a/g", api.OK)
	r.wantPuts(goneEntry(2, "g"), linked(11, 1))
	r.wantRead(name(1, "a"), name(2, "g"), of(11, api.Links))
	r.wantWritten(name(2, "g"), of(11, api.Links))
	r.wantInode(11, file(1, 40))
	r.wantFind("/f", 11, api.OK)
	r.wantRead(name(1, "f"))
	// The last one: it is gone, with its two chunks.
	r.wantUnlink("/f", api.OK)
	r.wantPuts(goneEntry(1, "f"), goneRecord(11), goneChunk(11, 0), goneChunk(11, 1))
	r.wantRead(of(11, api.Size))
	r.wantWritten(name(1, "f"), of(11, api.All))
	r.wantInode(11, api.Inode{})
	r.wantFind("/f", 0, api.ErrNoEntry)
	r.wantUnlink("/f", api.ErrNoEntry)
	r.wantReadAlone()
	r.wantPutsBackwards()
}

// P19.3: a file that has its name alone; its size is read, as it is removed.
func TestUnlinkTheOnlyName(t *testing.T) {
	r := treeOf(t, api.MaxPlaces)
	r.wantUnlink("/a/b/h", api.OK)
	r.wantPuts(goneEntry(3, "h"), goneRecord(12), goneChunk(12, 0))
	r.wantRead(name(1, "a"), name(2, "b"), name(3, "h"), of(12, api.Links), of(12, api.Size))
	r.wantWritten(name(3, "h"), of(12, api.All))
	r.wantList("/a/b", api.OK, "c")
}

// P19.3: ErrIsDir, of a directory that is empty too.
func TestUnlinkADirectory(t *testing.T) {
	r := treeOf(t, api.MaxPlaces)
	r.wantUnlink("/a", api.ErrIsDir)
	r.wantUnlink("/e", api.ErrIsDir)
	r.wantUnlink("/a/b/c", api.ErrIsDir)
	r.wantReadAlone(name(1, "a"), name(1, "e"), name(2, "b"), name(3, "c"))
	r.wantUnlink("/", api.ErrPath)
	r.wantReadAlone()
}

// P19.3: what was put in ahead of an error of Put is so.
func TestUnlinkTooBig(t *testing.T) {
	r := treeOf(t, 0)
	r.wantUnlink("/f", api.ErrTooBig)
	r.wantReadAlone(name(1, "f"))
	r = treeOf(t, 1)
	r.wantUnlink("/f", api.ErrTooBig)
	r.wantPuts(goneEntry(1, "f"))
	r.wantRead(name(1, "f"), of(11, api.Links))
	r.wantWritten(name(1, "f"))
}
