package va_test

import (
	"math"
	"testing"

	"atlas/api"
	"atlas/va"
)

const all = ^uint64(0)

var levels = []int{api.Small, api.Middle, api.Large}

// size tells a page's size as the chapter does: 4096, and 512 times as much for each level more.
func size(level int) uint64 {
	s := uint64(4096)
	for range level {
		s *= 512
	}
	return s
}

// bit tells whether the bit i of w is set.
func bit(w uint64, i int) bool { return w>>i%2 == 1 }

// is tells bit by bit whether a is canonical.
func is(a uint64) bool {
	for i := 39; i < 64; i++ {
		if bit(a, i) != bit(a, 38) {
			return false
		}
	}
	return true
}

// field tells the number of the n bits from the bit lo on, bit by bit.
func field(a uint64, lo, n int) uint64 {
	f := uint64(0)
	for i := n - 1; i >= 0; i-- {
		f *= 2
		if bit(a, lo+i) {
			f++
		}
	}
	return f
}

// of tells the canonical address of a page number: the lower half of the numbers is below, the upper half ends at the end of all addresses.
func of(n uint64) uint64 {
	n %= 1 << 27
	if n < 1<<26 {
		return n * 4096
	}
	return 0 - (1<<27-n)*4096
}

// addresses are those of each page's first and last bytes, around each power of two, at the ends of both halves, and many with all kinds of bits.
func addresses() []uint64 {
	l := []uint64{0, all, 0x40201000, 0x5008, 0x7fc0403000, 0xffffffd234567abc, 0x123456789abcdef0, 0xfedcba9876543210, 0x5555555555555555, 0xaaaaaaaaaaaaaaaa, 0x3fffffffff, 0xffffffc000000000}
	for i := range 64 {
		for _, a := range []uint64{1 << i, 3 << i, all << i} {
			l = append(l, a-1, a, a+1, ^a, a^1<<38)
		}
	}
	for _, level := range levels {
		for _, many := range []uint64{1, 2, 3, 255, 256, 511, 512, 513} {
			a := many * size(level)
			l = append(l, a-1, a, a+1, 0-a-1, 0-a, 0-a+1)
		}
	}
	a := uint64(1)
	for range 5000 {
		// A walk over words that is the same in each run.
		a = a*6364136223846793005 + 1442695040888963407
		b := a ^ a>>29
		l = append(l, b, of(b)+b%4096, b>>25, b<<12, of(b), of(b)/size(1)*size(1))
	}
	return l
}

// P5.1: a page's size.
func TestSize(t *testing.T) {
	for level, want := range []uint64{4096, 2097152, 1073741824} {
		if got := va.Size(level); got != want {
			t.Errorf("Size(%d): %#x, not %#x", level, got, want)
		}
		if got := va.Size(level); got != size(level) {
			t.Errorf("Size(%d) asked again: %#x", level, got)
		}
	}
}

// P5.1: what is canonical, at the ends of both halves, and of each bit that is unlike the bit 38.
func TestIs(t *testing.T) {
	for _, x := range []struct {
		a    uint64
		want bool
	}{
		{0, true},
		{1, true},
		{0x40201000, true},
		{all, true},
		{all - 1, true},
		{0xfffffffffffff000, true},
		// the greatest of the lower half, and the one behind it
		{0x3fffffffff, true},
		{0x4000000000, false},
		// the least of the upper half, and the one ahead of it
		{0xffffffc000000000, true},
		{0xffffffbfffffffff, false},
		// numbers of 39 bits, and others far off
		{0x7fffffffff, false},
		{0x8000000000, false},
		{0xffffff8000000000, false},
		{1 << 63, false},
		{1<<63 - 1, false},
		{0x7fffffffffffffff &^ 0x3fffffffff, false},
		{0x8000004000000000, false},
	} {
		if got := va.Is(x.a); got != x.want {
			t.Errorf("Is(%#x): %v", x.a, got)
		}
	}
	for _, low := range []uint64{0, 1, 0xfff, 0x40201000, 1 << 37, 1<<38 - 1} {
		clear, set := low, low|0xffffffc000000000
		if !va.Is(clear) || !va.Is(set) {
			t.Errorf("the bits above all as the bit 38: Is(%#x), Is(%#x): %v, %v", clear, set, va.Is(clear), va.Is(set))
		}
		for i := 38; i < 64; i++ {
			for _, a := range []uint64{clear ^ 1<<i, set ^ 1<<i} {
				if va.Is(a) {
					t.Errorf("the bit %d unlike the others: Is(%#x)", i, a)
				}
			}
		}
	}
	for _, a := range addresses() {
		if got := va.Is(a); got != is(a) {
			t.Fatalf("Is(%#x): %v", a, got)
		}
	}
}

// P5.1: the indexes of three levels, of any addresses, and the chapter's example.
func TestIndex(t *testing.T) {
	for _, x := range []struct {
		a              uint64
		low, mid, high int
	}{
		{0, 0, 0, 0},
		{0x40201000, 1, 1, 1},
		{0xfff, 0, 0, 0},
		{0x1000, 1, 0, 0},
		{0x1ff000, 511, 0, 0},
		{0x200000, 0, 1, 0},
		{0x3fe00000, 0, 511, 0},
		{0x40000000, 0, 0, 1},
		{0x3fffffffff, 511, 511, 255},
		{0x4000000000, 0, 0, 256},
		{0x7fc0403000, 3, 2, 511},
		{0x7fffffffff, 511, 511, 511},
		{0x8000000000, 0, 0, 0},
		{0xffffff8000000000, 0, 0, 0},
		{0xffffffc000000000, 0, 0, 256},
		{0xffffffbfffffffff, 511, 511, 255},
		{0xffffffffc0000000, 0, 0, 511},
		{0xfffffffffffff000, 511, 511, 511},
		{all, 511, 511, 511},
		{1 << 63, 0, 0, 0},
	} {
		low, mid, high := va.Index(x.a, api.Small), va.Index(x.a, api.Middle), va.Index(x.a, api.Large)
		if low != x.low || mid != x.mid || high != x.high {
			t.Errorf("indexes of %#x: %d, %d, %d", x.a, low, mid, high)
		}
	}
	for _, a := range addresses() {
		for _, level := range levels {
			if got, want := va.Index(a, level), field(a, 12+9*level, 9); got < 0 || uint64(got) != want {
				t.Fatalf("Index(%#x, %d): %d, not %d", a, level, got, want)
			}
		}
	}
}

// P5.1: the page number, of any addresses.
func TestNumber(t *testing.T) {
	for _, x := range []struct{ a, want uint64 }{
		{0, 0},
		{0xfff, 0},
		{0x1000, 1},
		{0x1fff, 1},
		{0x40201000, 0x40201},
		{0x3fffffffff, 1<<26 - 1},
		{0x4000000000, 1 << 26},
		{0x7fffffffff, 1<<27 - 1},
		{0x8000000000, 0},
		{0xffffffbfffffffff, 1<<26 - 1},
		{0xffffffc000000000, 1 << 26},
		{0xffffff8000000000, 0},
		{all, 1<<27 - 1},
		{1 << 63, 0},
	} {
		if got := va.Number(x.a); got != x.want {
			t.Errorf("Number(%#x): %#x, not %#x", x.a, got, x.want)
		}
	}
	for _, a := range addresses() {
		want := field(a, 12, 27)
		if got := va.Number(a); got != want {
			t.Fatalf("Number(%#x): %#x, not %#x", a, got, want)
		}
		if high, mid, low := field(a, 30, 9), field(a, 21, 9), field(a, 12, 9); va.Number(a) != (high*512+mid)*512+low {
			t.Fatalf("Number(%#x): %#x isn't put together of its indexes", a, va.Number(a))
		}
	}
}

// P5.1: the canonical address of a number, of which the bits from 27 on count for nothing.
func TestOf(t *testing.T) {
	for _, x := range []struct{ n, want uint64 }{
		{0, 0},
		{1, 0x1000},
		{0x40201, 0x40201000},
		{1<<26 - 1, 0x3ffffff000},
		{1 << 26, 0xffffffc000000000},
		{1<<26 + 1, 0xffffffc000001000},
		{1<<27 - 1, 0xfffffffffffff000},
		// bits from 27 on
		{1 << 27, 0},
		{1<<27 | 3, 0x3000},
		{1<<28 | 1<<26, 0xffffffc000000000},
		{1 << 63, 0},
		{1<<63 | 1, 0x1000},
		{all, 0xfffffffffffff000},
		{0xfffffffff8000000, 0},
		{0xfffffffffbffffff, 0x3ffffff000},
	} {
		if got := va.Of(x.n); got != x.want {
			t.Errorf("Of(%#x): %#x, not %#x", x.n, got, x.want)
		}
	}
	for _, n := range addresses() {
		got := va.Of(n)
		if got != of(n) {
			t.Fatalf("Of(%#x): %#x, not %#x", n, got, of(n))
		}
		if !va.Is(got) || got%4096 != 0 || va.Number(got) != n%(1<<27) {
			t.Fatalf("Of(%#x): %#x isn't the page's first canonical address", n, got)
		}
	}
	for i := 27; i < 64; i++ {
		for _, n := range []uint64{0, 5, 1<<26 | 5, 1<<27 - 1} {
			if got := va.Of(n | 1<<i); got != of(n) {
				t.Errorf("the bit %d of the number %#x set: %#x", i, n, got)
			}
		}
	}
}

// P5.2: base and offset, of multiples of a page's size, of one less and of one more, canonical or not.
func TestBaseOffset(t *testing.T) {
	for _, x := range []struct {
		a            uint64
		level        int
		base, offset uint64
	}{
		{0, 0, 0, 0},
		{0, 2, 0, 0},
		{0x5008, 0, 0x5000, 8},
		{0x5008, 1, 0, 0x5008},
		{0x5008, 2, 0, 0x5008},
		{0x40201fff, 0, 0x40201000, 0xfff},
		{0x40201fff, 1, 0x40200000, 0x1fff},
		{0x40201fff, 2, 0x40000000, 0x201fff},
		{0x1fffff, 1, 0, 0x1fffff},
		{0x200000, 1, 0x200000, 0},
		{0x200001, 1, 0x200000, 1},
		{0x3fffffff, 2, 0, 0x3fffffff},
		{0x40000000, 2, 0x40000000, 0},
		{0x40000001, 2, 0x40000000, 1},
		{0x4000000000, 0, 0x4000000000, 0},
		{0x4000000001, 2, 0x4000000000, 1},
		{0xffffffbfffffffff, 2, 0xffffffbfc0000000, 0x3fffffff},
		{1<<63 | 0x1234, 0, 1<<63 | 0x1000, 0x234},
		{all, 0, all - 0xfff, 0xfff},
		{all, 1, all - 0x1fffff, 0x1fffff},
		{all, 2, all - 0x3fffffff, 0x3fffffff},
	} {
		if base, offset := va.Base(x.a, x.level), va.Offset(x.a, x.level); base != x.base || offset != x.offset {
			t.Errorf("Base, Offset(%#x, %d): %#x, %#x", x.a, x.level, base, offset)
		}
	}
	for _, a := range addresses() {
		for _, level := range levels {
			s := size(level)
			base, offset := va.Base(a, level), va.Offset(a, level)
			if offset != a%s || base != a/s*s || base+offset != a {
				t.Fatalf("Base, Offset(%#x, %d): %#x, %#x", a, level, base, offset)
			}
		}
	}
}

// P5.2: what fits is canonical and a multiple, neither alone.
func TestFits(t *testing.T) {
	for _, x := range []struct {
		a           uint64
		low, mid, h bool
	}{
		{0, true, true, true},
		{1, false, false, false},
		{0xfff, false, false, false},
		{0x1000, true, false, false},
		{0x1001, false, false, false},
		{0x1ff000, true, false, false},
		{0x1fffff, false, false, false},
		{0x200000, true, true, false},
		{0x200001, false, false, false},
		{0x3fe00000, true, true, false},
		{0x3fffffff, false, false, false},
		{0x40000000, true, true, true},
		{0x40000001, false, false, false},
		{0x3fc0000000, true, true, true},
		{0x3fffffffff, false, false, false},
		// multiples that aren't canonical
		{0x4000000000, false, false, false},
		{0x4000001000, false, false, false},
		{0x8000000000, false, false, false},
		{0xffffffbfc0000000, false, false, false},
		{0xffffff8000000000, false, false, false},
		{1 << 63, false, false, false},
		// the upper half
		{0xffffffc000000000, true, true, true},
		{0xffffffc000000001, false, false, false},
		{0xffffffffc0000000, true, true, true},
		{0xffffffffffe00000, true, true, false},
		{0xfffffffffffff000, true, false, false},
		{all, false, false, false},
	} {
		if low, mid, h := va.Fits(x.a, 0), va.Fits(x.a, 1), va.Fits(x.a, 2); low != x.low || mid != x.mid || h != x.h {
			t.Errorf("Fits(%#x): %v, %v, %v", x.a, low, mid, h)
		}
	}
	for _, a := range addresses() {
		for _, level := range levels {
			if got := va.Fits(a, level); got != (is(a) && a%size(level) == 0) {
				t.Fatalf("Fits(%#x, %d): %v", a, level, got)
			}
		}
	}
}

// P5.3: a canonical address is put together of its page number and its offset, at each level, and one that isn't canonical isn't.
func TestTogether(t *testing.T) {
	for _, a := range append(addresses(), 0, 0x3fffffffff, 0xffffffc000000000, all) {
		for _, level := range levels {
			got := va.Of(va.Number(va.Base(a, level))) + va.Offset(a, level)
			if (got == a) != is(a) {
				t.Fatalf("%#x, at the level %d, is put together as %#x", a, level, got)
			}
		}
		if got := va.Of(va.Number(a)) + va.Offset(a, api.Small); (got == a) != is(a) {
			t.Fatalf("%#x is put together as %#x", a, got)
		}
	}
}

// Of levels that are none nothing is promised but that no call panics.
func TestNoPanic(t *testing.T) {
	for _, level := range []int{-1, 3, 4, 6, 64, -64, 1 << 32, math.MaxInt, math.MinInt} {
		for _, a := range []uint64{0, 1, 0x40201000, 1 << 38, 0xffffffc000000000, all} {
			va.Size(level)
			va.Index(a, level)
			va.Base(a, level)
			va.Offset(a, level)
			va.Fits(a, level)
		}
	}
}
