package bytes_test

import (
	"math"
	"slices"
	"testing"

	"atlas/bytes"
)

const all = ^uint64(0)

var sizes = []int{1, 2, 4, 8}

// words are such that each byte differs from its neighbours in some, that the edges of each size are met, and that high bits are cut off.
var words = []uint64{0, 1, 0x7f, 0x80, 0xff, 0x100, 0x7fff, 0x8000, 0xffff, 0x10000, 1<<31 - 1, 1 << 31, 1<<32 - 1, 1 << 32, 1<<63 - 1, 1 << 63, 1<<63 | 1, 0x0123456789abcdef, 0xfedcba9876543210, 0x00ff00ff00ff00ff, 0xff00ff00ff00ff00, all - 1, all}

// told is what Put is to answer, told by parts of 256.
func told(v uint64, size int) []byte {
	var b []byte
	for len(b) < size {
		b = append(b, byte(v%256))
		v /= 256
	}
	return b
}

// number is what Get is to answer, told by parts of 256.
func number(b []byte) uint64 {
	v, by := uint64(0), uint64(1)
	for _, x := range b[:min(len(b), 8)] {
		v += uint64(x) * by
		by *= 256
	}
	return v
}

// P2.1: the sizes are 1, 2, 4 and 8, and nothing else is.
func TestSize(t *testing.T) {
	for n := -300; n <= 300; n++ {
		if v, want := bytes.Size(n), slices.Contains(sizes, n); v != want {
			t.Errorf("Size(%d) is %v", n, v)
		}
	}
	for _, n := range []int{math.MinInt, math.MinInt + 1, math.MinInt + 8, -1 << 32, 1 << 31, 1 << 32, 1<<32 + 1, 1<<32 + 8, 1 << 62, math.MaxInt} {
		if bytes.Size(n) {
			t.Errorf("Size(%d) is true", n)
		}
	}
}

// P2.1: the bytes, the lowest first, of each size; bits beyond the size are cut off.
func TestPut(t *testing.T) {
	for _, x := range []struct {
		v    uint64
		size int
		want []byte
	}{
		{0x1234, 2, []byte{0x34, 0x12}},
		{0x12, 1, []byte{0x12}},
		{0x12345678, 4, []byte{0x78, 0x56, 0x34, 0x12}},
		{0x0123456789abcdef, 8, []byte{0xef, 0xcd, 0xab, 0x89, 0x67, 0x45, 0x23, 0x01}},
		// smaller numbers than the size has room for
		{0, 1, []byte{0}},
		{0, 8, []byte{0, 0, 0, 0, 0, 0, 0, 0}},
		{7, 4, []byte{7, 0, 0, 0}},
		{1 << 63, 8, []byte{0, 0, 0, 0, 0, 0, 0, 0x80}},
		// high bits that are cut off
		{0x1234, 1, []byte{0x34}},
		{0x100, 1, []byte{0}},
		{0x10000, 2, []byte{0, 0}},
		{0x123456789a, 4, []byte{0x9a, 0x78, 0x56, 0x34}},
		{1 << 32, 4, []byte{0, 0, 0, 0}},
		{all, 1, []byte{0xff}},
		{all, 2, []byte{0xff, 0xff}},
		{all, 4, []byte{0xff, 0xff, 0xff, 0xff}},
		{all, 8, []byte{0xff, 0xff, 0xff, 0xff, 0xff, 0xff, 0xff, 0xff}},
	} {
		if b := bytes.Put(x.v, x.size); !slices.Equal(b, x.want) {
			t.Errorf("Put(%#x, %d) is % x, not % x", x.v, x.size, b, x.want)
		}
	}
}

// P2.1: the bytes of many words, of each size.
func TestPutOfAllSizes(t *testing.T) {
	for _, size := range sizes {
		for _, v := range words {
			if b, want := bytes.Put(v, size), told(v, size); !slices.Equal(b, want) {
				t.Errorf("Put(%#x, %d) is % x, not % x", v, size, b, want)
			}
		}
	}
}

// P2.1: the number of the lowest bits, of each size.
func TestLow(t *testing.T) {
	for _, x := range []struct {
		v    uint64
		size int
		want uint64
	}{
		{0x0123456789abcdef, 1, 0xef},
		{0x0123456789abcdef, 2, 0xcdef},
		{0x0123456789abcdef, 4, 0x89abcdef},
		{0x0123456789abcdef, 8, 0x0123456789abcdef},
		{0xff, 1, 0xff},
		{0x100, 1, 0},
		{0xffff, 2, 0xffff},
		{0x10000, 2, 0},
		{1<<32 - 1, 4, 1<<32 - 1},
		{1 << 32, 4, 0},
		{1 << 63, 4, 0},
		{1 << 63, 8, 1 << 63},
		{all, 1, 0xff},
		{all, 2, 0xffff},
		{all, 4, 0xffffffff},
		{all, 8, all},
		// the sign is nothing of its own
		{0x80, 1, 0x80},
		{0x8000, 2, 0x8000},
		{1 << 31, 4, 1 << 31},
		{0, 1, 0},
		{0, 8, 0},
	} {
		if v := bytes.Low(x.v, x.size); v != x.want {
			t.Errorf("Low(%#x, %d) is %#x, not %#x", x.v, x.size, v, x.want)
		}
	}
}

// P2.1: the number of the lowest bits is the number of the bytes.
func TestLowOfAllSizes(t *testing.T) {
	for _, size := range sizes {
		for _, v := range words {
			if got, want := bytes.Low(v, size), number(told(v, size)); got != want {
				t.Errorf("Low(%#x, %d) is %#x, not %#x", v, size, got, want)
			}
		}
	}
}

// P2.1: the number whose bytes are handed in: of none 0, of more than eight that of the first eight.
func TestGet(t *testing.T) {
	for _, x := range []struct {
		b    []byte
		want uint64
	}{
		{[]byte{0x34, 0x12}, 0x1234},
		{[]byte{0xff}, 0xff},
		{[]byte{0, 0x80}, 0x8000},
		{[]byte{0xef, 0xcd, 0xab, 0x89}, 0x89abcdef},
		{[]byte{0xef, 0xcd, 0xab, 0x89, 0x67, 0x45, 0x23, 0x01}, 0x0123456789abcdef},
		{[]byte{0xff, 0xff, 0xff, 0xff, 0xff, 0xff, 0xff, 0xff}, all},
		// as many as no size has
		{[]byte{1, 2, 3}, 0x30201},
		{[]byte{1, 2, 3, 4, 5}, 0x504030201},
		{[]byte{1, 2, 3, 4, 5, 6}, 0x60504030201},
		{[]byte{1, 2, 3, 4, 5, 6, 7}, 0x7060504030201},
		// none
		{nil, 0},
		{[]byte{}, 0},
		{[]byte{9, 9, 9}[:0], 0},
		// more than eight
		{[]byte{1, 0, 0, 0, 0, 0, 0, 0x80, 7}, 1<<63 | 1},
		{[]byte{0, 0, 0, 0, 0, 0, 0, 0, 0xff}, 0},
		{[]byte{1, 2, 3, 4, 5, 6, 7, 8, 9, 10, 11, 12, 13, 14, 15, 16}, 0x0807060504030201},
	} {
		if v := bytes.Get(x.b); v != x.want {
			t.Errorf("Get(% x) is %#x, not %#x", x.b, v, x.want)
		}
	}
}

// P2.1: the number of as many bytes as may be, the room behind a list's length being none of it.
func TestGetOfAllLengths(t *testing.T) {
	row := make([]byte, 300)
	for i := range row {
		row[i] = byte(255 - 3*i)
	}
	for n := range len(row) + 1 {
		b := row[:n]
		if v, want := bytes.Get(b), number(b); v != want {
			t.Errorf("Get of %d bytes is %#x, not %#x", n, v, want)
		}
	}
}

// P2.2: what is put is read as it was: the number, as far as the size has room for it.
func TestPutIsRead(t *testing.T) {
	for _, size := range sizes {
		for _, v := range words {
			if got, want := bytes.Get(bytes.Put(v, size)), bytes.Low(v, size); got != want {
				t.Errorf("%#x, put in %d bytes, is read as %#x, not %#x", v, size, got, want)
			}
			if size == 8 && bytes.Get(bytes.Put(v, size)) != v {
				t.Errorf("%#x, put whole, is read as another", v)
			}
		}
	}
}

// P2.2: what is read and put again is the bytes that were.
func TestReadIsPut(t *testing.T) {
	for _, size := range sizes {
		for _, v := range words {
			b := told(v, size)
			if got := bytes.Put(bytes.Get(b), size); !slices.Equal(got, b) {
				t.Errorf("% x, read and put, is % x", b, got)
			}
		}
	}
}

// P2.3: what is handed in stays, the room behind its length included.
func TestGetLeavesBytes(t *testing.T) {
	for n := range 13 {
		row := []byte{1, 2, 3, 4, 5, 6, 7, 8, 9, 10, 11, 12}
		was := slices.Clone(row)
		bytes.Get(row[:n])
		if !slices.Equal(row, was) {
			t.Errorf("Get of %d bytes left % x", n, row)
		}
	}
}

// P2.3: what is answered is new memory: what is written into one answer, or behind its length, is seen in no other.
func TestPutIsNew(t *testing.T) {
	const v = 0x1122334455667788
	for _, first := range sizes {
		for _, then := range sizes {
			a, b := bytes.Put(v, first), bytes.Put(v, then)
			for i := range a[:cap(a)] {
				a[:cap(a)][i] = 0xee
			}
			if !slices.Equal(b, told(v, then)) || !slices.Equal(bytes.Put(v, first), told(v, first)) {
				t.Errorf("of %d and %d bytes: one answer shares memory with another", first, then)
			}
		}
	}
}

// P2.3: what is read is kept nowhere: the bytes may change when they have been read, and the next call sees them as they are.
func TestGetKeepsNothing(t *testing.T) {
	b := []byte{1, 2}
	first := bytes.Get(b)
	b[0], b[1] = 3, 4
	if first != 0x201 || bytes.Get(b) != 0x403 {
		t.Errorf("% x is read as %#x, after %#x", b, bytes.Get(b), first)
	}
}

// Every call ends and none panics, also of what is no size, where nothing is promised of what it answers.
func TestNoPanic(t *testing.T) {
	for _, size := range []int{math.MinInt, math.MinInt + 1, -8, -1, 0, 3, 5, 6, 7, 9, 16, 64, 1 << 32, 1 << 61, math.MaxInt - 1, math.MaxInt} {
		bytes.Put(all, size)
		bytes.Low(all, size)
	}
}
