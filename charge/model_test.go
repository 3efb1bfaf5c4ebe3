package charge_test

import (
	"math/big"
	"math/rand"
	"testing"

	"armoire/charge"
)

// The model: what the document says of a book, word by word, in numbers that have no end.

func counts(n int) *big.Int {
	x := big.NewInt(int64(n))
	if x.Sign() < 0 {
		return big.NewInt(0)
	}
	if x.Cmp(big.NewInt(1000000)) > 0 {
		return big.NewInt(1000000)
	}
	return x
}

func treeOf(b charge.Book) *big.Int {
	x := new(big.Int).Div(counts(b.Items), big.NewInt(4))
	return x.Add(x, big.NewInt(4))
}

func allOf(b charge.Book) *big.Int {
	x := big.NewInt(2 + 64 + 16)
	x.Add(x, treeOf(b))
	x.Add(x, new(big.Int).Mul(big.NewInt(9), counts(b.Window)))
	return x.Add(x, new(big.Int).Mul(big.NewInt(10), counts(b.Pending)))
}

func leftOf(b charge.Book) *big.Int {
	x := new(big.Int).Sub(counts(b.Blocks), allOf(b))
	if x.Sign() < 0 {
		return big.NewInt(0)
	}
	return x
}

func moreOf(b charge.Book) *big.Int { return new(big.Int).Div(leftOf(b), big.NewInt(10)) }

func wantAsModel(t *testing.T, b charge.Book) {
	t.Helper()
	wantTree(t, b, int(treeOf(b).Int64()))
	wantAll(t, b, int(allOf(b).Int64()))
	wantLeft(t, b, int(leftOf(b).Int64()))
	wantMore(t, b, int(moreOf(b).Int64()))
}

// P20.1, P20.2: each of the odd numbers in each of the fields.
func TestOddBooks(t *testing.T) {
	for _, blocks := range odd() {
		for _, items := range odd() {
			for _, n := range odd() {
				wantAsModel(t, charge.Book{Blocks: blocks, Items: items, Window: n})
				wantAsModel(t, charge.Book{Blocks: blocks, Items: items, Pending: n})
			}
		}
	}
}

// P20.1, P20.2: books by chance, of each size of number.
func TestBooksByChance(t *testing.T) {
	r := rand.New(rand.NewSource(201))
	any := func() int { return int(r.Uint64()) >> r.Intn(64) }
	for range 20000 {
		wantAsModel(t, charge.Book{Blocks: any(), Items: any(), Window: any(), Pending: any()})
		wantAsModel(t, charge.Book{Blocks: r.Intn(1100), Items: r.Intn(600), Window: r.Intn(60), Pending: r.Intn(40)})
	}
}
