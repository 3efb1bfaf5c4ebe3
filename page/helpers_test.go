package page_test

import (
	"bytes"
	"encoding/binary"
	"hash/crc32"
	"math/rand"
	"reflect"
	"slices"
	"strings"
	"testing"

	"armoire/api"
	"armoire/page"
)

// key is a key that begins with s, and has bytes 0 behind it.
func key(s string) string { return s + strings.Repeat("\x00", api.MaxKey-len(s)) }

// keysFrom are so many keys that rise.
func keysFrom(first byte, count int) []string {
	var l []string
	for i := range count {
		l = append(l, key(string([]byte{first + byte(i)})))
	}
	return l
}

// leafOf is a leaf with so many pairs, each value of which has so many bytes.
func leafOf(count, width int) api.Node {
	n := api.Node{Leaf: true}
	for i, k := range keysFrom('a', count) {
		n.Pairs = append(n.Pairs, api.KV{Key: k, Value: strings.Repeat(string(rune('A'+i)), width)})
	}
	return n
}

// innerOf has so many kids and keys.
func innerOf(kids, keys int) api.Node {
	n := api.Node{Keys: keysFrom('a', keys)}
	for i := range kids {
		n.Kids = append(n.Kids, uint32(i+1)*0x01020304)
	}
	return n
}

func copyOf(n api.Node) api.Node {
	return api.Node{Leaf: n.Leaf, Pairs: slices.Clone(n.Pairs), Keys: slices.Clone(n.Keys), Kids: slices.Clone(n.Kids)}
}

// sameNode takes a nil list and an empty one for the same.
func sameNode(a, b api.Node) bool {
	return a.Leaf == b.Leaf && slices.Equal(a.Pairs, b.Pairs) && slices.Equal(a.Keys, b.Keys) && slices.Equal(a.Kids, b.Kids)
}

// isNode is what the document says of a node that may be.
func isNode(n api.Node) bool {
	var keys []string
	if n.Leaf {
		for _, p := range n.Pairs {
			keys = append(keys, p.Key)
			if len(p.Value) > 34 {
				return false
			}
		}
		if len(n.Pairs) < 1 || len(n.Pairs) > 10 || len(n.Keys) != 0 || len(n.Kids) != 0 {
			return false
		}
	} else {
		keys = n.Keys
		for _, kid := range n.Kids {
			if kid == 0 {
				return false
			}
		}
		if len(n.Kids) < 2 || len(n.Kids) > 24 || len(n.Keys)+1 != len(n.Kids) || len(n.Pairs) != 0 {
			return false
		}
	}
	for i, k := range keys {
		if len(k) != 14 || i > 0 && strings.Compare(keys[i-1], k) >= 0 {
			return false
		}
	}
	return true
}

// sealed is a block that begins with s, with a right sum, by the library's means.
func sealed(s string) []byte {
	b := make([]byte, 512)
	copy(b[:508], s)
	return reseal(b)
}

func reseal(b []byte) []byte {
	binary.LittleEndian.PutUint32(b[508:], crc32.Checksum(b[:508], crc32.MakeTable(crc32.Castagnoli)))
	return b
}

// nodeBlock is what the document says of the block of a node that may be.
func nodeBlock(n api.Node) []byte {
	var b bytes.Buffer
	if n.Leaf {
		b.WriteString("L")
		b.WriteByte(byte(len(n.Pairs)))
		for _, p := range n.Pairs {
			b.WriteString(p.Key)
			b.WriteByte(byte(len(p.Value)))
			b.WriteString(p.Value)
		}
	} else {
		b.WriteString("K")
		b.WriteByte(byte(len(n.Kids)))
		for _, kid := range n.Kids {
			binary.Write(&b, binary.BigEndian, kid)
		}
		b.WriteString(strings.Join(n.Keys, ""))
	}
	return sealed(b.String())
}

// headBlock is what the document says of a head's block.
func headBlock(h api.Head) []byte {
	var b bytes.Buffer
	b.WriteString("armoire1")
	binary.Write(&b, binary.BigEndian, h)
	return sealed(b.String())
}

// plainNodes are of each count that may be, with values of many widths.
func plainNodes() []api.Node {
	var l []api.Node
	for count := 1; count <= api.LeafMax; count++ {
		for _, width := range []int{0, 1, 2, 13, 14, 33, 34} {
			l = append(l, leafOf(count, width))
		}
	}
	for count := 2; count <= api.KidsMax; count++ {
		l = append(l, innerOf(count, count-1))
	}
	return l
}

// someNodes are these, and some of everything.
func someNodes() []api.Node {
	l := plainNodes()
	source := rand.New(rand.NewSource(5))
	for range 1000 {
		l = append(l, randomNode(source))
	}
	return l
}

func randomNode(source *rand.Rand) api.Node {
	if source.Intn(2) == 0 {
		n := api.Node{Leaf: true}
		for _, k := range randomKeys(source, 1+source.Intn(api.LeafMax)) {
			n.Pairs = append(n.Pairs, api.KV{Key: k, Value: randomText(source, source.Intn(api.MaxValue+1))})
		}
		return n
	}
	n := api.Node{Keys: randomKeys(source, 1+source.Intn(api.KidsMax-1))}
	for range len(n.Keys) + 1 {
		n.Kids = append(n.Kids, 1+uint32(source.Int63n(1<<32-1)))
	}
	return n
}

func randomText(source *rand.Rand, width int) string {
	b := make([]byte, width)
	source.Read(b)
	return string(b)
}

// randomKeys rise; many of them have the same first bytes.
func randomKeys(source *rand.Rand, count int) []string {
	l := []string{}
	start := randomText(source, source.Intn(api.MaxKey-1))
	for len(l) < count {
		l = append(l, start+randomText(source, api.MaxKey-len(start)))
		slices.Sort(l)
		l = slices.Compact(l)
	}
	return l
}

// wantNode holds a node that may be, and its block, against each other.
func wantNode(t *testing.T, n api.Node, block []byte) {
	t.Helper()
	if err := page.CheckNode(n); err != api.OK {
		t.Errorf("CheckNode(%v): got %d", n, err)
	}
	if b, err := page.EncodeNode(n); !bytes.Equal(b, block) || err != api.OK {
		t.Errorf("EncodeNode(%v): got % x, %d, want % x", n, b, err, block)
	}
	if got, err := page.DecodeNode(block); !sameNode(got, n) || err != api.OK {
		t.Errorf("DecodeNode(% x): got %v, %d, want %v", block, got, err, n)
	}
}

func wantNoNode(t *testing.T, n api.Node) {
	t.Helper()
	if err := page.CheckNode(n); err != api.ErrPage {
		t.Errorf("CheckNode(%v): got %d", n, err)
	}
	if b, err := page.EncodeNode(n); len(b) != 0 || err != api.ErrPage {
		t.Errorf("EncodeNode(%v): got % x, %d", n, b, err)
	}
}

// wantNoBlock tells that b is no node's block, and why.
func wantNoBlock(t *testing.T, b []byte, want api.Errno) {
	t.Helper()
	if n, err := page.DecodeNode(b); !reflect.ValueOf(n).IsZero() || err != want {
		t.Errorf("DecodeNode(% x): got %v, %d, want nothing, %d", b, n, err, want)
	}
}

func wantNoHead(t *testing.T, b []byte, want api.Errno) {
	t.Helper()
	if h, err := page.DecodeHead(b); h != (api.Head{}) || err != want {
		t.Errorf("DecodeHead(% x): got %v, %d, want nothing, %d", b, h, err, want)
	}
}
