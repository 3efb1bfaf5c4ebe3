package page_test

import (
	"bytes"
	"math/rand"
	"slices"
	"strings"
	"testing"

	"armoire/api"
	"armoire/codec"
	"armoire/page"
)

// P5.2: blocks that are too short or too long, whatever their bytes are.
func TestDecodeOfOtherLengths(t *testing.T) {
	long := slices.Concat(nodeBlock(leafOf(3, 1)), headBlock(api.Head{Seq: 1}))
	for n := range 1025 {
		if n == 512 {
			continue
		}
		for _, b := range [][]byte{long[:n], make([]byte, n), bytes.Repeat([]byte{0xff}, n)} {
			wantNoBlock(t, b, api.ErrShort)
			wantNoHead(t, b, api.ErrShort)
		}
	}
	wantNoBlock(t, nil, api.ErrShort)
	wantNoHead(t, nil, api.ErrShort)
}

// P5.2: shorter and longer ones whose last four bytes are the sum of those ahead: the length is looked at first.
func TestDecodeOfOtherLengthsWithARightSum(t *testing.T) {
	for _, block := range [][]byte{nodeBlock(leafOf(3, 1)), nodeBlock(innerOf(3, 2)), headBlock(api.Head{Root: 7})} {
		content := slices.Concat(block[:508], make([]byte, 512))
		for _, width := range []int{0, 1, 2, 100, 507, 509, 1020} {
			b := codec.Seal(content[:width])
			wantNoBlock(t, b, api.ErrShort)
			wantNoHead(t, b, api.ErrShort)
		}
	}
}

// P5.2, P5.4: a block of which all bytes are 0 is neither.
func TestDecodeOfNoughts(t *testing.T) {
	wantNoBlock(t, make([]byte, 512), api.ErrSum)
	wantNoHead(t, make([]byte, 512), api.ErrSum)
	// With a right sum they are still neither.
	wantNoBlock(t, sealed(""), api.ErrForm)
	wantNoHead(t, sealed(""), api.ErrForm)
}

// P5.2: a bit that is changed, wherever it is.
func TestDecodeOfAWrongSum(t *testing.T) {
	for _, block := range [][]byte{nodeBlock(leafOf(10, 34)), nodeBlock(innerOf(24, 23)), headBlock(api.Head{Seq: 1, Root: 7})} {
		for bit := range 8 * 512 {
			b := slices.Clone(block)
			b[bit/8] ^= 1 << (bit % 8)
			wantNoBlock(t, b, api.ErrSum)
			wantNoHead(t, b, api.ErrSum)
		}
	}
	// The sum, the highest byte first.
	b := nodeBlock(leafOf(1, 1))
	slices.Reverse(b[508:])
	wantNoBlock(t, b, api.ErrSum)
	b = headBlock(api.Head{Seq: 1})
	slices.Reverse(b[508:])
	wantNoHead(t, b, api.ErrSum)
}

// P5.2: each first byte with something behind it that L or K may have.
func TestDecodeOfFirstBytes(t *testing.T) {
	leaf, inner := nodeBlock(leafOf(2, 1)), nodeBlock(innerOf(3, 2))
	for c := range 256 {
		for _, block := range [][]byte{leaf, inner} {
			if byte(c) != block[0] {
				b := slices.Clone(block)
				b[0] = byte(c)
				wantNoBlock(t, reseal(b), api.ErrForm)
			}
		}
	}
}

// P5.2: each count that is not the block's own.
func TestDecodeOfCounts(t *testing.T) {
	for _, n := range plainNodes() {
		block := nodeBlock(n)
		for c := range 256 {
			b := slices.Clone(block)
			b[1] = byte(c)
			if b[1] != block[1] {
				wantNoBlock(t, reseal(b), api.ErrForm)
			}
		}
	}
}

// P5.2: counts that may not be, with all that they tell of behind them.
func TestDecodeOfCountsThatMayNotBe(t *testing.T) {
	wantNoBlock(t, sealed("L\x00"), api.ErrForm)
	wantNoBlock(t, sealed("K\x00"), api.ErrForm)
	for count := 11; count <= 33; count++ {
		wantNoBlock(t, nodeBlock(leafOf(count, 0)), api.ErrForm)
	}
	wantNoBlock(t, nodeBlock(innerOf(1, 0)), api.ErrForm)
	for count := 25; count <= 28; count++ {
		wantNoBlock(t, nodeBlock(innerOf(count, count-1)), api.ErrForm)
	}
}

// P5.2: pairs for which the block is too short, in the key, at the value's width, and in the value.
func TestDecodeOfPairsBeyondTheBlock(t *testing.T) {
	for width := range 256 {
		n := api.Node{Leaf: true}
		for _, k := range keysFrom('a', 10) {
			n.Pairs = append(n.Pairs, api.KV{Key: k, Value: strings.Repeat("v", width)})
		}
		if width <= 34 {
			wantNode(t, n, nodeBlock(n))
		} else {
			wantNoBlock(t, nodeBlock(n), api.ErrForm)
		}
	}
	for c := range 256 {
		for _, mark := range []string{"L", "K"} {
			for _, fill := range []string{"\x01", "\x0e", "a", "\xff"} {
				wantNoBlock(t, sealed(mark+string([]byte{byte(c)})+strings.Repeat(fill, 506)), api.ErrForm)
			}
		}
	}
}

// P5.2: a byte that is not 0 behind the last pair or key.
func TestDecodeOfBytesBehind(t *testing.T) {
	for _, c := range []struct {
		n   api.Node
		end int
	}{
		{leafOf(1, 0), 17},
		{leafOf(1, 34), 51},
		{leafOf(10, 34), 492},
		{innerOf(2, 1), 24},
		{innerOf(24, 23), 420},
	} {
		for at := c.end; at < 508; at++ {
			for _, x := range []byte{1, 0x80, 0xff} {
				b := nodeBlock(c.n)
				b[at] = x
				wantNoBlock(t, reseal(b), api.ErrForm)
			}
		}
	}
}

// P5.2: blocks with a right sum whose nodes may not be.
func TestDecodeOfNodesThatMayNotBe(t *testing.T) {
	alike := leafOf(3, 1)
	alike.Pairs[2].Key = alike.Pairs[1].Key
	falling := leafOf(3, 1)
	falling.Pairs[2].Key = falling.Pairs[0].Key
	long := leafOf(2, 1)
	long.Pairs[1].Value = strings.Repeat("v", 35)
	nought := innerOf(3, 2)
	nought.Kids[2] = 0
	alikeKeys := innerOf(3, 2)
	alikeKeys.Keys[1] = alikeKeys.Keys[0]
	fallingKeys := innerOf(3, 2)
	slices.Reverse(fallingKeys.Keys)
	for _, n := range []api.Node{alike, falling, long, nought, alikeKeys, fallingKeys} {
		wantNoBlock(t, nodeBlock(n), api.ErrForm)
	}
}

// readNode is what the document says of DecodeNode, byte behind byte.
func readNode(b []byte) (api.Node, api.Errno) {
	if len(b) != 512 {
		return api.Node{}, api.ErrShort
	}
	if !bytes.Equal(b, reseal(slices.Clone(b))) {
		return api.Node{}, api.ErrSum
	}
	rest := string(b[2:508])
	short := false
	next := func(width int) string {
		if short = short || len(rest) < width; short {
			return strings.Repeat("\x00", width)
		}
		s := rest[:width]
		rest = rest[width:]
		return s
	}
	n := api.Node{Leaf: b[0] == 'L'}
	for range b[1] {
		if n.Leaf {
			k := next(14)
			n.Pairs = append(n.Pairs, api.KV{Key: k, Value: next(int(next(1)[0]))})
		} else {
			k := next(4)
			n.Kids = append(n.Kids, uint32(k[0])<<24|uint32(k[1])<<16|uint32(k[2])<<8|uint32(k[3]))
		}
	}
	for range int(b[1]) - 1 {
		if !n.Leaf {
			n.Keys = append(n.Keys, next(14))
		}
	}
	if short || strings.Trim(rest, "\x00") != "" || !isNode(n) || b[0] != 'L' && b[0] != 'K' {
		return api.Node{}, api.ErrForm
	}
	return n, api.OK
}

// P5.2, P5.4: blocks of nodes with some bytes changed and a right sum: what is read is written as this block.
func TestEncodeOfDecode(t *testing.T) {
	source := rand.New(rand.NewSource(52))
	var taken, refused int
	for range 50000 {
		b := nodeBlock(randomNode(source))
		for range 1 + source.Intn(3) {
			at := []int{source.Intn(60), source.Intn(508), source.Intn(4)}[source.Intn(3)]
			b[at] = []byte{b[at] ^ 1<<source.Intn(8), 0, 'L', 'K', byte(source.Intn(256)), byte(source.Intn(30))}[source.Intn(6)]
		}
		want, reason := readNode(reseal(b))
		if reason != api.OK {
			refused++
			wantNoBlock(t, b, reason)
			continue
		}
		taken++
		wantNode(t, want, b)
	}
	if taken < 1000 || refused < 1000 {
		t.Errorf("%d were taken, %d refused: too few of one of them", taken, refused)
	}
}

// P5.2: a block of anything.
func TestDecodeOfAnything(t *testing.T) {
	source := rand.New(rand.NewSource(53))
	for range 2000 {
		b := make([]byte, source.Intn(600))
		source.Read(b)
		_, want := readNode(b)
		wantNoBlock(t, b, want)
		wantNoHead(t, b, want)
		b = make([]byte, 512)
		source.Read(b)
		wantNoHead(t, b, api.ErrSum)
		wantNoBlock(t, b, api.ErrSum)
		wantNoHead(t, reseal(b), api.ErrForm)
		wantNoBlock(t, b, api.ErrForm)
	}
}

// R3: a leaf that is read has no Keys or Kids, another one no Pairs.
func TestDecodedNodesHaveWhatIsTheirs(t *testing.T) {
	for _, n := range someNodes() {
		got, _ := page.DecodeNode(nodeBlock(n))
		if got.Leaf && (len(got.Keys) > 0 || len(got.Kids) > 0) || !got.Leaf && len(got.Pairs) > 0 {
			t.Errorf("got %v", got)
		}
	}
}

// R4: blocks that are read are not changed, nor what stands behind them, nor kept: what was read stays as it was when they change.
func TestDecodeAndMemory(t *testing.T) {
	for _, n := range []api.Node{leafOf(4, 3), innerOf(4, 3)} {
		room := slices.Concat(nodeBlock(n), bytes.Repeat([]byte{7}, 100))
		before := slices.Clone(room)
		a, _ := page.DecodeNode(room[:512])
		b, _ := page.DecodeNode(room[:512])
		page.DecodeHead(room[:512])
		if !bytes.Equal(room, before) {
			t.Error("the block was changed")
		}
		spoil(room)
		for i := range a.Pairs[:cap(a.Pairs)] {
			a.Pairs[:cap(a.Pairs)][i] = api.KV{Key: "x"}
		}
		for i := range a.Keys[:cap(a.Keys)] {
			a.Keys[:cap(a.Keys)][i] = "x"
		}
		for i := range a.Kids[:cap(a.Kids)] {
			a.Kids[:cap(a.Kids)][i] = 99
		}
		if !sameNode(b, n) {
			t.Errorf("got %v, want %v", b, n)
		}
	}
}
