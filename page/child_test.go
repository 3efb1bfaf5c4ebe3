package page_test

import (
	"math/rand"
	"strings"
	"testing"

	"armoire/api"
	"armoire/page"
)

func wantChild(t *testing.T, n api.Node, key string, want int) {
	t.Helper()
	if got := page.Child(n, key); got != want {
		t.Errorf("Child(%v, %q): got %d, want %d", n, key, got, want)
	}
}

// P5.3: the document's example: keys below, at, between and above the Keys.
func TestChild(t *testing.T) {
	n := api.Node{Kids: []uint32{5, 258, 7}, Keys: []string{key("b"), key("d")}}
	for k, want := range map[string]int{"": 0, "a": 0, "a\xff": 0, "b": 1, "b\x01": 1, "c": 1, "d": 2, "e": 2, "\xff": 2} {
		wantChild(t, n, key(k), want)
	}
	// Keys of other lengths are held against them byte by byte, too.
	for k, want := range map[string]int{"": 0, "b": 0, "b\x01": 1, key("b")[:13]: 0, key("b") + "\x00": 1, key("d") + "x": 2, strings.Repeat("z", 300): 2} {
		wantChild(t, n, k, want)
	}
}

// P5.3: each key of a great node, and one on both sides of it.
func TestChildOfEachKey(t *testing.T) {
	n := innerOf(24, 23)
	for i, k := range n.Keys {
		wantChild(t, n, k, i+1)
		wantChild(t, n, k[:13]+"\x01", i+1)
		wantChild(t, n, string([]byte{k[0] - 1})+strings.Repeat("\xff", 13), i)
	}
}

// P5.3: of a leaf 0, whatever it has.
func TestChildOfLeaves(t *testing.T) {
	for _, n := range []api.Node{
		leafOf(3, 1),
		{Leaf: true},
		{Leaf: true, Keys: keysFrom('a', 3), Kids: []uint32{1, 2, 3, 4}},
		{Leaf: true, Keys: []string{""}},
	} {
		for _, k := range []string{"", key("a"), key("b"), key("z")} {
			wantChild(t, n, k, 0)
		}
	}
}

// P5.3: of nodes that may not be: keys without kids, that fall, that are alike, of other lengths, too many of them.
func TestChildOfNodesThatMayNotBe(t *testing.T) {
	wantChild(t, api.Node{}, key("a"), 0)
	wantChild(t, api.Node{}, "", 0)
	wantChild(t, api.Node{Pairs: []api.KV{{Key: key("a")}}}, key("z"), 0)
	wantChild(t, api.Node{Pairs: []api.KV{{Key: key("a")}}, Keys: []string{key("b")}}, key("z"), 1)
	wantChild(t, api.Node{Keys: []string{"", ""}}, "", 2)
	wantChild(t, api.Node{Keys: []string{key("d"), key("b")}}, key("c"), 1)
	wantChild(t, api.Node{Keys: []string{key("d"), key("a"), key("e"), key("b")}}, key("c"), 2)
	wantChild(t, api.Node{Keys: []string{key("b"), key("b"), key("b")}}, key("b"), 3)
	wantChild(t, api.Node{Keys: []string{key("b"), key("b"), key("b")}}, key("a"), 0)
	wantChild(t, api.Node{Keys: keysFrom(1, 200)}, key("\xff"), 200)
	wantChild(t, api.Node{Keys: make([]string, 1000)}, "x", 1000)
}

// P5.3: whatever n is: how many keys are not above.
func TestChildOfAnything(t *testing.T) {
	source := rand.New(rand.NewSource(56))
	for range 5000 {
		n := api.Node{Leaf: source.Intn(5) == 0}
		for range source.Intn(40) {
			n.Keys = append(n.Keys, randomText(source, source.Intn(3)))
		}
		k, want := randomText(source, source.Intn(3)), 0
		for _, other := range n.Keys {
			if !n.Leaf && strings.Compare(other, k) <= 0 {
				want++
			}
		}
		wantChild(t, n, k, want)
	}
}
