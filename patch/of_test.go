package patch_test

import (
	"math"
	"strings"
	"testing"

	"armoire/api"
	"armoire/patch"
)

func bytesAt(off int, data string) chunk {
	var c chunk
	copy(c[off:], data)
	return c
}

// P12.1: the document's examples, and the edges of Of that it names.
func TestOf(t *testing.T) {
	whole := "0123456789abcdef0123456789abcdeF"
	for _, c := range []struct {
		off  int
		data string
		mask uint32
	}{
		{0, "", 0},
		{0, "a", 1},
		{0, whole, math.MaxUint32},
		{0, whole[:31], 0x7fffffff},
		{1, whole[1:], 0xfffffffe},
		{2, "ab", 12},
		{16, whole[16:], 0xffff0000},
		{30, "ab", 3 << 30},
		{31, "", 0},
		{31, "a", 1 << 31},
		{32, "", 0},
		{5, "\x00\x00\x00", 7 << 5},
		{5, "\xff\x00\x80", 7 << 5},
		{4, "\u00e9\u65e5", 0x1f << 4},
	} {
		wantOf(t, c.off, c.data, api.Patch{Mask: c.mask, Bytes: bytesAt(c.off, c.data)}, api.OK)
	}
	for _, c := range []struct {
		off  int
		data string
	}{
		{-1, ""}, {-1, "a"}, {-1, whole}, {-1, whole + "x"}, {-32, whole}, {-32, whole + whole},
		{0, whole + "x"}, {1, whole}, {2, whole[1:]}, {31, "ab"}, {32, "a"}, {33, ""}, {64, ""},
		{math.MinInt, ""}, {math.MinInt, "a"}, {math.MinInt, whole},
		{math.MaxInt, ""}, {math.MaxInt, "a"}, {math.MaxInt, "ab"}, {math.MaxInt, whole},
	} {
		wantOf(t, c.off, c.data, api.Patch{}, api.ErrArg)
	}
}

// P12.1: of each offset and each length, also much longer than a chunk, with the least and the greatest int among the offsets.
func TestOfAtEachOffset(t *testing.T) {
	lengths := []int{33, 34, 63, 64, 65, 255, 256, 257, 65536, 65537, 1 << 20}
	for n := range api.Chunk + 1 {
		lengths = append(lengths, n)
	}
	long := strings.Repeat("abcdefg", 1<<18)
	for _, off := range someOffs() {
		for _, n := range lengths {
			data := long[:n]
			if off < 0 || off > 32 || off+n > 32 {
				wantOf(t, off, data, api.Patch{}, api.ErrArg)
				continue
			}
			want := api.Patch{Bytes: bytesAt(off, data)}
			for i := range n {
				want.Mask += uint32(math.Pow(2, float64(off+i)))
			}
			wantOf(t, off, data, want, api.OK)
		}
	}
}

// P12.1: what Of answers lays the bytes, and nothing else of the chunk becomes otherwise.
func TestOfIsLaid(t *testing.T) {
	for _, bytes := range someChunks() {
		for off := range api.Chunk + 1 {
			for n := range api.Chunk + 1 - off {
				data := strings.Repeat("\x00q", 16)[:n]
				p, err := patch.Of(off, data)
				if err != api.OK {
					t.Fatalf("Of(%d, %q): got %d", off, data, err)
				}
				wantLay(t, bytes, p, chunk([]byte(string(bytes[:off])+data+string(bytes[off+n:]))))
			}
		}
	}
}

// P12.1: Zero at the edges that the document names.
func TestZero(t *testing.T) {
	for _, c := range []struct {
		off  int
		mask uint32
	}{
		{0, math.MaxUint32}, {1, 0xfffffffe}, {16, 0xffff0000}, {30, 3 << 30}, {31, 1 << 31}, {32, 0},
	} {
		wantZero(t, c.off, api.Patch{Mask: c.mask}, api.OK)
	}
	for _, off := range []int{-1, 33, math.MinInt, math.MaxInt} {
		wantZero(t, off, api.Patch{}, api.ErrArg)
	}
}

// P12.1: Zero at each offset: the same as Of of so many noughts, and what is laid is 0 up to the end.
func TestZeroAtEachOffset(t *testing.T) {
	for _, off := range someOffs() {
		if off < 0 || off > 32 {
			wantZero(t, off, api.Patch{}, api.ErrArg)
			continue
		}
		noughts := strings.Repeat("\x00", 32-off)
		z, err := patch.Zero(off)
		if err != api.OK {
			t.Fatalf("Zero(%d): got %d", off, err)
		}
		wantOf(t, off, noughts, z, api.OK)
		for _, bytes := range someChunks() {
			wantLay(t, bytes, z, chunk([]byte(string(bytes[:off])+noughts)))
		}
	}
}
