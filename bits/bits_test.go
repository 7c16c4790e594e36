package bits_test

import (
	"math"
	"testing"

	"atlas/bits"
)

const all = ^uint64(0)

// words are such that each bit is set in some and not in others, and the edges of a word are.
var words = []uint64{0, 1, 2, 3, 1 << 38, 1<<38 - 1, 1 << 62, 1 << 63, 1<<63 - 1, 1<<63 | 1, 0x5555555555555555, 0xaaaaaaaaaaaaaaaa, 0x123456789abcdef0, 0xfedcba9876543210, all - 1, all}

// bit is the bit i of a word, as the document counts them: none is set beyond the 64th.
func bit(w uint64, i int) bool {
	for ; i > 0; i-- {
		w /= 2
	}
	return w%2 == 1
}

// number is the number whose bit i is as told.
func number(told func(i int) bool) uint64 {
	n := uint64(0)
	for i := 63; i >= 0; i-- {
		n *= 2
		if told(i) {
			n++
		}
	}
	return n
}

// field is what Get is to answer, told bit by bit.
func field(w uint64, lo, n int) uint64 {
	return number(func(i int) bool { return i < n && bit(w, lo+i) })
}

// with is what Set is to answer, told bit by bit.
func with(w uint64, lo, n int, v uint64) uint64 {
	return number(func(i int) bool {
		if i >= lo && i < lo+n {
			return bit(v, i-lo)
		}
		return bit(w, i)
	})
}

// eachField goes through all fields there are, those that reach beyond the 64th bit included.
func eachField(see func(lo, n int)) {
	for lo := range 65 {
		for n := range 65 {
			see(lo, n)
		}
	}
}

// P1.1: the field is read.
func TestGet(t *testing.T) {
	for _, x := range []struct {
		w     uint64
		lo, n int
		want  uint64
	}{
		{0xabcd, 4, 8, 0xbc},
		{0x123456789abcdef0, 8, 16, 0xbcde},
		{0x123456789abcdef0, 0, 4, 0},
		{all, 0, 1, 1},
		{all, 63, 1, 1},
		// lo and n of 0 and of 64
		{all, 0, 0, 0},
		{all, 64, 0, 0},
		{all, 0, 64, all},
		{0x123456789abcdef0, 0, 64, 0x123456789abcdef0},
		{all, 64, 1, 0},
		{all, 64, 64, 0},
		// a field that reaches beyond the 64th bit
		{all, 60, 8, 0xf},
		{all, 63, 2, 1},
		{all, 1, 64, all >> 1},
		{all, 63, 64, 1},
		{1 << 63, 60, 4, 8},
	} {
		if v := bits.Get(x.w, x.lo, x.n); v != x.want {
			t.Errorf("Get(%#x, %d, %d) is %#x, not %#x", x.w, x.lo, x.n, v, x.want)
		}
	}
}

// P1.1: the field is read, of each field of many words.
func TestGetOfAllFields(t *testing.T) {
	eachField(func(lo, n int) {
		for _, w := range words {
			if v, want := bits.Get(w, lo, n), field(w, lo, n); v != want {
				t.Fatalf("Get(%#x, %d, %d) is %#x, not %#x", w, lo, n, v, want)
			}
		}
	})
}

// P1.1: the field is set, and nothing beside it.
func TestSet(t *testing.T) {
	for _, x := range []struct {
		w     uint64
		lo, n int
		v     uint64
		want  uint64
	}{
		{0, 4, 8, 0xbc, 0xbc0},
		{all, 4, 8, 0, 0xfffffffffffff00f},
		{0xabcd, 4, 8, 0x12, 0xa12d},
		// lo and n of 0 and of 64
		{7, 0, 0, all, 7},
		{7, 1, 0, 5, 7},
		{7, 64, 0, 5, 7},
		{7, 64, 3, 5, 7},
		{7, 64, 64, all, 7},
		{all, 0, 64, 5, 5},
		{0, 0, 64, all, all},
		// a field that reaches beyond the 64th bit
		{0, 60, 8, 0xff, 0xf << 60},
		{all, 60, 8, 0, all >> 4},
		{0, 63, 64, 3, 1 << 63},
		{1, 1, 64, all, all},
		// a value wider than its field
		{0, 4, 4, 0x123, 0x30},
		{0xf0f, 4, 4, all, 0xfff},
		{all, 4, 4, 0x120, 0xffffffffffffff0f},
		{0, 0, 1, 2, 0},
		{0, 63, 1, all, 1 << 63},
	} {
		if v := bits.Set(x.w, x.lo, x.n, x.v); v != x.want {
			t.Errorf("Set(%#x, %d, %d, %#x) is %#x, not %#x", x.w, x.lo, x.n, x.v, v, x.want)
		}
	}
}

// P1.1: the field is set, and nothing beside it, of each field of many words.
func TestSetOfAllFields(t *testing.T) {
	eachField(func(lo, n int) {
		for _, w := range words {
			for _, v := range []uint64{0, 5, 0x123456789abcdef0, all} {
				if got, want := bits.Set(w, lo, n, v), with(w, lo, n, v); got != want {
					t.Fatalf("Set(%#x, %d, %d, %#x) is %#x, not %#x", w, lo, n, v, got, want)
				}
			}
		}
	})
}

// P1.2: the bits above are as the bit n - 1.
func TestSign(t *testing.T) {
	for _, x := range []struct {
		w    uint64
		n    int
		want uint64
	}{
		{0x80, 8, 0xffffffffffffff80},
		{0x7f, 8, 0x7f},
		{0xff7f, 8, 0x7f},
		{0x180, 8, 0xffffffffffffff80},
		{1 << 38, 39, all - (1<<38 - 1)},
		{1<<38 - 1, 39, 1<<38 - 1},
		{all - (1<<39 - 1), 39, 0},
		// of 1 bit
		{0, 1, 0},
		{1, 1, all},
		{2, 1, 0},
		{all, 1, all},
		// of 64 bits, and of one less
		{1 << 63, 64, 1 << 63},
		{all >> 1, 64, all >> 1},
		{all, 64, all},
		{0, 64, 0},
		{1 << 62, 63, 3 << 62},
		{1 << 63, 63, 0},
	} {
		if v := bits.Sign(x.w, x.n); v != x.want {
			t.Errorf("Sign(%#x, %d) is %#x, not %#x", x.w, x.n, v, x.want)
		}
	}
}

// P1.2: the bits above are as the bit n - 1, for each n of many words.
func TestSignOfAllWidths(t *testing.T) {
	for n := 1; n <= 64; n++ {
		for _, w := range words {
			want := number(func(i int) bool { return bit(w, min(i, n-1)) })
			if v := bits.Sign(w, n); v != want {
				t.Fatalf("Sign(%#x, %d) is %#x, not %#x", w, n, v, want)
			}
		}
	}
}

// P1.2: multiples, of 0 only 0.
func TestEven(t *testing.T) {
	for _, x := range []struct {
		w, by uint64
		want  bool
	}{
		{0, 8, true},
		{8, 8, true},
		{4, 8, false},
		{12, 8, false},
		{9, 3, true},
		{10, 3, false},
		{7, 1, true},
		{1 << 63, 4096, true},
		{4097, 4096, false},
		{4095, 4096, false},
		{all, all, true},
		{all - 1, all, false},
		{all, 1 << 63, false},
		{1 << 63, 1 << 63, true},
		// of 0
		{0, 0, true},
		{1, 0, false},
		{3, 0, false},
		{1 << 63, 0, false},
		{all, 0, false},
	} {
		if v := bits.Even(x.w, x.by); v != x.want {
			t.Errorf("Even(%#x, %#x) is %v", x.w, x.by, v)
		}
	}
}

// P1.2: 1, or 0.
func TestBool(t *testing.T) {
	if v := bits.Bool(true); v != 1 {
		t.Error("true is", v)
	}
	if v := bits.Bool(false); v != 0 {
		t.Error("false is", v)
	}
}

// P1.3: a field that is set is read as it was: what fits in it, and in the word, of the value.
func TestSetIsRead(t *testing.T) {
	eachField(func(lo, n int) {
		for _, w := range words {
			for _, v := range words {
				want := field(v, 0, min(n, 64-lo))
				if got := bits.Get(bits.Set(w, lo, n, v), lo, n); got != want {
					t.Fatalf("%#x, set in %#x at %d of %d bits, is read as %#x, not %#x", v, w, lo, n, got, want)
				}
			}
		}
	})
}

// P1.3: a field that is set to what it is leaves the word as it was.
func TestSetOfWhatIsThere(t *testing.T) {
	eachField(func(lo, n int) {
		for _, w := range words {
			if v := bits.Set(w, lo, n, bits.Get(w, lo, n)); v != w {
				t.Fatalf("%#x, set at %d of %d bits to what is there, is %#x", w, lo, n, v)
			}
		}
	})
}

// No call panics, at whatever places and widths, also where nothing is promised of what it answers.
func TestNoPanic(t *testing.T) {
	odd := []int{math.MinInt, math.MinInt + 1, -65, -64, -1, 0, 64, 65, 128, math.MaxInt - 1, math.MaxInt}
	for _, lo := range odd {
		for _, n := range odd {
			bits.Get(all, lo, n)
			bits.Set(all, lo, n, all)
		}
		bits.Sign(all, lo)
	}
}
