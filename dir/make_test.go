package dir_test

import (
	"math"
	"testing"

	"armoire/api"
)

// P19.2: a new inode, and the entry that leads to it; only the names are touched.
func TestMake(t *testing.T) {
	for _, kind := range []int{api.File, api.Dir} {
		for _, mode := range []int{0, 6, 511} {
			r := treeOf(t, api.MaxPlaces)
			i := api.Inode{Kind: kind, Mode: mode, Links: 1}
			r.wantMake("/n", kind, mode, 100, api.OK)
			r.wantPuts(fresh(100, i), leads(1, "n", 100))
			r.wantRead(name(1, "n"))
			r.wantWritten(name(1, "n"))
			r.wantGiven(1)
			r.wantMake("/a/b/n", kind, mode, 101, api.OK)
			r.wantPuts(fresh(101, i), leads(3, "n", 101))
			r.wantRead(name(1, "a"), name(2, "b"), name(3, "n"))
			r.wantWritten(name(3, "n"))
			r.wantGiven(1)
			r.wantInode(100, i)
			r.wantInode(101, i)
			r.wantFind("/n", 100, api.OK)
			r.wantFind("/a/b/n", 101, api.OK)
			r.wantPutsBackwards()
		}
	}
}

// P19.2: of whatever is there already ErrExists, also where it leads to nothing, ahead of the arguments' own faults.
func TestMakeWhatExists(t *testing.T) {
	for _, x := range []struct {
		p    string
		read []api.Touch
	}{
		{"/a", []api.Touch{name(1, "a")}},
		{"/f", []api.Touch{name(1, "f")}},
		{"/s", []api.Touch{name(1, "s")}},
		{"/a/b", []api.Touch{name(1, "a"), name(2, "b")}},
		{"/a/g", []api.Touch{name(1, "a"), name(2, "g")}},
	} {
		for _, kind := range []int{api.File, api.Dir, api.NoKind, 3} {
			for _, mode := range []int{0, -1, 512} {
				r := treeOf(t, api.MaxPlaces)
				r.wantMake(x.p, kind, mode, 0, api.ErrExists)
				r.wantReadAlone(x.read...)
			}
		}
	}
}

// P19.2: ErrArg behind the place; no number is asked for.
func TestMakeArg(t *testing.T) {
	r := treeOf(t, api.MaxPlaces)
	for _, x := range [][2]int{{0, 0}, {3, 0}, {-1, 0}, {math.MaxInt, 0}, {math.MinInt, 0}, {1, -1}, {1, 512}, {2, -1}, {2, 512}, {1, math.MaxInt}, {2, math.MinInt}} {
		r.wantMake("/a/n", x[0], x[1], 0, api.ErrArg)
		r.wantMake("/a/b", x[0], x[1], 0, api.ErrExists)
		r.wantMake("/f/n", x[0], x[1], 0, api.ErrNotDir)
		r.wantMake("/n/n", x[0], x[1], 0, api.ErrNoEntry)
		r.wantMake("/", x[0], x[1], 0, api.ErrPath)
	}
	r.wantReadAlone(name(1, "a"), name(2, "n"), name(2, "b"), name(1, "f"), name(1, "n"))
}

// P19.2: what was put in and allotted ahead of an error of Put is so; its name is not written.
func TestMakeTooBig(t *testing.T) {
	r := treeOf(t, 0)
	r.wantMake("/n", api.File, 6, 0, api.ErrTooBig)
	r.wantPuts()
	r.wantRead(name(1, "n"))
	r.wantWritten()
	r.wantGiven(1)
	r = treeOf(t, 1)
	r.wantMake("/n", api.File, 6, 0, api.ErrTooBig)
	r.wantPuts(fresh(100, file(1, 0)))
	r.wantRead(name(1, "n"))
	r.wantWritten()
	r.wantGiven(1)
	r = treeOf(t, 2)
	r.wantMake("/n", api.File, 6, 100, api.OK)
	r.wantPuts(fresh(100, file(1, 0)), leads(1, "n", 100))
	r.wantWritten(name(1, "n"))
}

// P19.2: a number that may not be is the view's error.
func TestMakeNumber0(t *testing.T) {
	r := treeOf(t, api.MaxPlaces)
	r.number, r.given = math.MaxUint32, math.MaxUint32
	r.wantMake("/n", api.File, 6, 0, api.ErrArg)
	r.wantPuts()
	r.wantRead(name(1, "n"))
	r.wantWritten()
	r.wantGiven(1)
}

// P19.2: of a name that was taken away another one is made.
func TestMakeAgain(t *testing.T) {
	r := treeOf(t, api.MaxPlaces)
	r.put(goneEntry(1, "f"))
	r.wantMake("/f", api.Dir, 7, 100, api.OK)
	r.wantPuts(fresh(100, directory()), leads(1, "f", 100))
	r.wantRead(name(1, "f"))
	r.wantWritten(name(1, "f"))
	r.wantMake("/f/f", api.File, 6, 101, api.OK)
	r.wantFind("/f/f", 101, api.OK)
}
