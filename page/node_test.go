package page_test

import (
	"math"
	"math/rand"
	"slices"
	"strings"
	"testing"

	"armoire/api"
	"armoire/page"
)

// P5.1, P5.2: what the blocks of some nodes are, byte by byte.
func TestNodeBlocks(t *testing.T) {
	for _, c := range []struct {
		n     api.Node
		begin string
	}{
		{api.Node{Leaf: true, Pairs: []api.KV{{Key: key("a")}}}, "L\x01" + key("a") + "\x00"},
		{api.Node{Leaf: true, Pairs: []api.KV{{Key: key("")}}}, "L\x01" + key("") + "\x00"},
		{api.Node{Leaf: true, Pairs: []api.KV{{Key: key("a"), Value: "1"}, {Key: key("b"), Value: ""}, {Key: key("c"), Value: "xyz"}}},
			"L\x03" + key("a") + "\x011" + key("b") + "\x00" + key("c") + "\x03xyz"},
		{api.Node{Leaf: true, Pairs: []api.KV{{Key: "01234567890123", Value: strings.Repeat("v", 34)}}},
			"L\x0101234567890123\x22" + strings.Repeat("v", 34)},
		{api.Node{Kids: []uint32{5, 258}, Keys: []string{key("b")}}, "K\x02\x00\x00\x00\x05\x00\x00\x01\x02" + key("b")},
		{api.Node{Kids: []uint32{math.MaxUint32, 1, 0x01020304}, Keys: []string{key(""), strings.Repeat("\xff", 14)}},
			"K\x03\xff\xff\xff\xff\x00\x00\x00\x01\x01\x02\x03\x04" + key("") + strings.Repeat("\xff", 14)},
	} {
		wantNode(t, c.n, sealed(c.begin))
	}
}

// P5.1, P5.2, P5.4: Decode of Encode is the node, of each count and of many values.
func TestDecodeOfEncode(t *testing.T) {
	for _, n := range someNodes() {
		if !isNode(n) {
			t.Fatalf("%v may not be", n)
		}
		wantNode(t, n, nodeBlock(n))
	}
}

// P5.1: leaves and others of every count, those that may be and those that may not.
func TestCounts(t *testing.T) {
	for count := range 40 {
		if n := leafOf(count, 2); 1 <= count && count <= 10 {
			wantNode(t, n, nodeBlock(n))
		} else {
			wantNoNode(t, n)
		}
		for keys := range 40 {
			if n := innerOf(count, keys); 2 <= count && count <= 24 && keys == count-1 {
				wantNode(t, n, nodeBlock(n))
			} else {
				wantNoNode(t, n)
			}
		}
	}
	// As many as a byte tells as if they were one or two.
	for _, count := range []int{256 + 1, 256 + 2, 65536 + 2} {
		leaf := api.Node{Leaf: true}
		inner := api.Node{}
		for i := range count {
			k := key(string([]byte{byte(i >> 16), byte(i >> 8), byte(i)}))
			leaf.Pairs = append(leaf.Pairs, api.KV{Key: k})
			inner.Keys, inner.Kids = append(inner.Keys, k), append(inner.Kids, uint32(i+1))
		}
		wantNoNode(t, leaf)
		inner.Keys = inner.Keys[1:]
		wantNoNode(t, inner)
	}
}

// P5.1: values of every width.
func TestWidthsOfValues(t *testing.T) {
	for width := range 600 {
		for at := range 3 {
			n := leafOf(3, 1)
			n.Pairs[at].Value = strings.Repeat("v", width)
			if width <= 34 {
				wantNode(t, n, nodeBlock(n))
			} else {
				wantNoNode(t, n)
			}
		}
	}
}

// P5.1: keys that are shorter and longer than keys are, the first and the last one too.
func TestWidthsOfKeys(t *testing.T) {
	for _, width := range []int{0, 1, 12, 13, 15, 16, 28, 255, 256 + 14} {
		for at := range 3 {
			leaf, inner := leafOf(3, 1), innerOf(4, 3)
			k := leaf.Pairs[at].Key
			k = (k + strings.Repeat("x", 300))[:width]
			leaf.Pairs[at].Key, inner.Keys[at] = k, k
			wantNoNode(t, leaf)
			wantNoNode(t, inner)
		}
	}
	// Together they are as long as keys should be.
	wantNoNode(t, api.Node{Leaf: true, Pairs: []api.KV{{Key: "aaaaaaaaaaaaa"}, {Key: "bbbbbbbbbbbbbbb"}}})
	wantNoNode(t, api.Node{Kids: []uint32{1, 2, 3}, Keys: []string{"aaaaaaaaaaaaa", "bbbbbbbbbbbbbbb"}})
}

// P5.1: keys that are alike or fall, at each position, by the first byte and by the last one.
func TestKeysThatDoNotRise(t *testing.T) {
	last := func(c string) string { return strings.Repeat("k", 13) + c }
	for _, keys := range [][]string{
		{key("a"), key("a")},
		{key("b"), key("a")},
		{key(""), key("")},
		{last("a"), last("a")},
		{last("b"), last("a")},
		{last("\x80"), last("\x7f")},
		{key("\xff"), key("a")},
		{key("a"), key("c"), key("b")},
		{key("a"), key("b"), key("a")},
		{key("a"), key("b"), key("b")},
		{key("b"), key("a"), key("c")},
		{key("a"), key("a"), key("c")},
		{key("ab"), key("aa"), key("ac")},
	} {
		leaf := api.Node{Leaf: true}
		inner := api.Node{Keys: keys, Kids: []uint32{9}}
		for i, k := range keys {
			leaf.Pairs = append(leaf.Pairs, api.KV{Key: k, Value: string([]byte{'a' + byte(i)})})
			inner.Kids = append(inner.Kids, uint32(i+1))
		}
		wantNoNode(t, leaf)
		wantNoNode(t, inner)
	}
}

// P5.1: keys are held against each other by their bytes, not by runes.
func TestKeysRiseByBytes(t *testing.T) {
	var keys []string
	for c := range 256 {
		keys = append(keys, key(string([]byte{byte(c)})))
	}
	for i := range 255 {
		n := api.Node{Keys: keys[i : i+2], Kids: []uint32{1, 1, 1}}
		wantNode(t, n, nodeBlock(n))
	}
}

// P5.1: what is not a leaf's in a leaf, and what is not another one's in another one.
func TestNodesWithWhatIsNotTheirs(t *testing.T) {
	leaf, inner := leafOf(2, 1), innerOf(3, 2)
	for _, n := range []api.Node{
		{},
		{Leaf: true},
		{Leaf: true, Pairs: leaf.Pairs, Keys: []string{key("a")}},
		{Leaf: true, Pairs: leaf.Pairs, Keys: []string{""}},
		{Leaf: true, Pairs: leaf.Pairs, Kids: []uint32{5}},
		{Leaf: true, Pairs: leaf.Pairs, Kids: []uint32{0}},
		{Leaf: true, Pairs: leaf.Pairs, Keys: inner.Keys, Kids: inner.Kids},
		{Leaf: true, Keys: inner.Keys, Kids: inner.Kids},
		{Leaf: true, Pairs: leaf.Pairs, Keys: []string{key("a")}, Kids: []uint32{1, 2}},
		{Pairs: leaf.Pairs},
		{Pairs: leaf.Pairs, Keys: inner.Keys, Kids: inner.Kids},
		{Pairs: []api.KV{{}}, Keys: inner.Keys, Kids: inner.Kids},
	} {
		wantNoNode(t, n)
	}
}

// P5.1: the document's example, one kid alone; kids that are 0; kids that are alike may be.
func TestKids(t *testing.T) {
	wantNoNode(t, api.Node{Kids: []uint32{5}})
	for at := range 24 {
		n := innerOf(24, 23)
		n.Kids[at] = 0
		wantNoNode(t, n)
	}
	alike := api.Node{Kids: []uint32{7, 7, 7}, Keys: keysFrom('a', 2)}
	wantNode(t, alike, nodeBlock(alike))
	falling := api.Node{Kids: []uint32{9, 8, 7}, Keys: keysFrom('a', 2)}
	wantNode(t, falling, nodeBlock(falling))
}

// P5.1, R3: lists that are empty are as if there were none.
func TestEmptyLists(t *testing.T) {
	leaf := leafOf(2, 1)
	leaf.Keys, leaf.Kids = []string{}, []uint32{}
	wantNode(t, leaf, nodeBlock(leaf))
	inner := innerOf(2, 1)
	inner.Pairs = []api.KV{}
	wantNode(t, inner, nodeBlock(inner))
	wantNoNode(t, api.Node{Leaf: true, Pairs: []api.KV{}, Keys: []string{}, Kids: []uint32{}})
	wantNoNode(t, api.Node{Pairs: []api.KV{}, Keys: []string{}, Kids: []uint32{}})
}

// P5.1: nodes that may be, with something changed of them, against the document's words.
func TestCheckNodeOfChangedNodes(t *testing.T) {
	source := rand.New(rand.NewSource(51))
	var may, mayNot int
	for range 20000 {
		n := changed(source, randomNode(source))
		if isNode(n) {
			may++
			wantNode(t, n, nodeBlock(n))
		} else {
			mayNot++
			wantNoNode(t, n)
		}
	}
	if may < 1000 || mayNot < 1000 {
		t.Errorf("%d may be, %d may not: too few of one of them", may, mayNot)
	}
}

func changed(source *rand.Rand, n api.Node) api.Node {
	switch source.Intn(8) {
	case 0:
		n.Leaf = !n.Leaf
	case 1:
		n.Kids = append(n.Kids, uint32(source.Intn(3)))
	case 2:
		n.Keys = append(n.Keys, key("\xff\xff"))
	case 3:
		n.Pairs = append(n.Pairs, api.KV{Key: key("\xff\xff"), Value: randomText(source, source.Intn(40))})
	case 4:
		slices.Reverse(n.Keys)
		slices.Reverse(n.Pairs)
	case 5:
		if len(n.Pairs) > 0 {
			n.Pairs[source.Intn(len(n.Pairs))].Value = randomText(source, 30+source.Intn(8))
		}
	case 6:
		if len(n.Kids) > 0 {
			n.Kids[source.Intn(len(n.Kids))] = uint32(source.Intn(2))
		}
	case 7:
		if len(n.Keys) > 0 {
			n.Keys[source.Intn(len(n.Keys))] = randomText(source, 13+source.Intn(3))
		}
	}
	return n
}

// R4: what is handed in is not changed, nor the spare room behind its lists, and no answer shares memory with it.
func TestEncodeNodeAndMemory(t *testing.T) {
	leaf, inner := leafOf(10, 3), innerOf(24, 23)
	for _, n := range []api.Node{
		{Leaf: true, Pairs: leaf.Pairs[:4]},
		{Keys: inner.Keys[:3], Kids: inner.Kids[:4]},
	} {
		before := nodeBlock(n)
		leafBefore, innerBefore := copyOf(leaf), copyOf(inner)
		a, _ := page.EncodeNode(n)
		b, _ := page.EncodeNode(n)
		page.CheckNode(n)
		page.Child(n, key("c"))
		spoil(a)
		if !slices.Equal(b, before) {
			t.Error("two blocks share memory")
		}
		if !sameNode(leaf, leafBefore) || !sameNode(inner, innerBefore) {
			t.Error("what was handed in was changed")
		}
	}
}

// spoil changes all bytes of b, and the spare room behind it.
func spoil(b []byte) {
	for i := range b[:cap(b)] {
		b[:cap(b)][i] ^= 0xff
	}
}
