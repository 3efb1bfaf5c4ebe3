package item_test

import (
	"testing"

	"armoire/api"
	"armoire/item"
)

func wantInode(t *testing.T, i api.Inode, want api.Errno) {
	t.Helper()
	if err := item.CheckInode(i); err != want {
		t.Errorf("CheckInode(%+v): got %d, want %d", i, err, want)
	}
}

// P4.1: the edges that the document names, one by one.
func TestCheckInodeExamples(t *testing.T) {
	for _, i := range []api.Inode{
		{Kind: api.File, Mode: 6, Links: 1, Size: 258},
		{Kind: api.File, Mode: 0, Links: 1, Size: 0},
		{Kind: api.File, Mode: api.MaxMode, Links: api.MaxLinks, Size: api.MaxSize},
		{Kind: api.Dir, Mode: 0, Links: 1},
		{Kind: api.Dir, Mode: api.MaxMode, Links: 1},
	} {
		wantInode(t, i, api.OK)
	}
	for _, i := range []api.Inode{
		{},
		{Kind: api.NoKind, Links: 1},
		{Kind: 3, Links: 1},
		{Kind: -1, Links: 1},
		{Kind: api.File, Mode: -1, Links: 1},
		{Kind: api.File, Mode: api.MaxMode + 1, Links: 1},
		{Kind: api.File, Links: -1},
		{Kind: api.File, Links: 0},
		{Kind: api.File, Links: api.MaxLinks + 1},
		{Kind: api.File, Links: 1, Size: -1},
		{Kind: api.File, Links: 1, Size: api.MaxSize + 1},
		{Kind: api.Dir, Mode: -1, Links: 1},
		{Kind: api.Dir, Mode: api.MaxMode + 1, Links: 1},
		{Kind: api.Dir, Links: 0},
		{Kind: api.Dir, Links: 2},
		{Kind: api.Dir, Links: 1, Size: -1},
		{Kind: api.Dir, Links: 1, Size: 1},
	} {
		wantInode(t, i, api.ErrForm)
	}
}

// P4.1: whatever is made of the edges, the far ones among them.
func TestCheckInodeOfEveryEdge(t *testing.T) {
	for _, i := range anyInodes() {
		want := api.ErrForm
		if isInode(i) {
			want = api.OK
		}
		wantInode(t, i, want)
	}
}

// P4.1: each number that a field may have, and some on both sides of them.
func TestCheckInodeOfEveryNumber(t *testing.T) {
	for n := -300; n < 1100; n++ {
		for _, i := range []api.Inode{
			{Kind: n, Links: 1},
			{Kind: api.File, Mode: n, Links: 1},
			{Kind: api.File, Links: n},
			{Kind: api.File, Links: 1, Size: n},
			{Kind: api.Dir, Mode: n, Links: 1},
			{Kind: api.Dir, Links: n},
			{Kind: api.Dir, Links: 1, Size: n},
		} {
			want := api.ErrForm
			if isInode(i) {
				want = api.OK
			}
			wantInode(t, i, want)
		}
	}
}
