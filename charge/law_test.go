package charge_test

import (
	"math/rand"
	"testing"

	"armoire/charge"
)

// wantNoGreater: a commit of k pending places, by which the tree grows by so many items, makes no charge greater.
func wantNoGreater(t *testing.T, b charge.Book, k, grown int) {
	t.Helper()
	c := charge.Book{Blocks: b.Blocks, Items: b.Items + grown, Window: b.Window + k, Pending: b.Pending - k}
	if c.Tree() > b.Tree()+k/4+1 {
		t.Errorf("Tree of %+v, then %+v: got %d, then %d", b, c, b.Tree(), c.Tree())
	}
	if c.All() > b.All() || c.Left() < b.Left() || c.More() < b.More() {
		t.Errorf("All, Left, More of %+v, then %+v: got %d, %d, %d, then %d, %d, %d", b, c, b.All(), b.Left(), b.More(), c.All(), c.Left(), c.More())
	}
}

// P20.3: of all small books, all commits.
func TestCommitsOfSmallBooks(t *testing.T) {
	for items := range 9 {
		for window := range 3 {
			for pending := range 13 {
				wantCommits(t, charge.Book{Blocks: 400, Items: items, Window: window, Pending: pending})
			}
		}
	}
}

// wantCommits: the law, of all commits of a book that may be.
func wantCommits(t *testing.T, b charge.Book) {
	t.Helper()
	for k := range b.Pending + 1 {
		for grown := -min(k, b.Items); grown <= k; grown++ {
			wantNoGreater(t, b, k, grown)
		}
	}
}

// P20.3: at the edge of what counts, where what becomes more may count no longer.
func TestCommitsAtTheEdge(t *testing.T) {
	for back := range 9 {
		for _, k := range []int{0, 1, 2, 3, 4, 5, 8, 64, 256} {
			wantNoGreater(t, charge.Book{Blocks: most, Items: most - back, Pending: 256}, k, k)
			wantNoGreater(t, charge.Book{Blocks: most, Window: most - back, Pending: 256}, k, k)
			wantNoGreater(t, charge.Book{Blocks: most, Pending: most - back}, k, k)
		}
	}
}

// P20.3: of books by chance.
func TestCommitsByChance(t *testing.T) {
	r := rand.New(rand.NewSource(20))
	for range 20000 {
		b := charge.Book{Blocks: r.Intn(1100), Items: r.Intn(500), Window: r.Intn(100), Pending: r.Intn(257)}
		k := r.Intn(b.Pending + 1)
		wantNoGreater(t, b, k, r.Intn(k+1))
		wantNoGreater(t, b, k, k)
	}
}

// P0.6: what fits may become pending and be committed, step by step, and never takes more than the disk has.
func TestWhatFitsIsPaid(t *testing.T) {
	for blocks := 192; blocks <= 1024; blocks++ {
		b := charge.Book{Blocks: blocks, Items: 1}
		for b.Fits(1) {
			b.Pending++
			if b.All() > blocks {
				t.Fatalf("All of %+v: got %d", b, b.All())
			}
			b.Items, b.Window, b.Pending = b.Items+1, b.Window+1, b.Pending-1
			if b.All() > blocks {
				t.Fatalf("All of %+v: got %d", b, b.All())
			}
		}
		if b.Left() >= 10 {
			t.Errorf("Left of %+v: got %d", b, b.Left())
		}
	}
}
