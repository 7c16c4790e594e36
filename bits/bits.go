// Package bits is layer 1: see shared/doc/01-bits.md.
package bits

// one is typed, so that every shift of it is one of 64 bits: what is shifted out is gone.
const one uint64 = 1

// low answers a mask of the lowest n bits. Of 64 the shift leaves nothing, and nothing less one is all bits.
// The count is taken without a sign, here and below, since a shift by a negative count would panic.
func low(n int) uint64 {
	return one<<uint(n) - 1
}

// mask answers a mask of the field; bits beyond the 64th fall off by the shift.
func mask(lo, n int) uint64 {
	return low(n) << uint(lo)
}

// Get answers the field of n bits from the bit lo on.
func Get(w uint64, lo, n int) uint64 {
	return w >> uint(lo) & low(n)
}

// Set answers the word whose field is v's lowest n bits.
func Set(w uint64, lo, n int, v uint64) uint64 {
	m := mask(lo, n)
	return w&^m | v<<uint(lo)&m
}

// Sign answers the word whose lowest n bits are w's, and whose others are all as the bit n - 1.
func Sign(w uint64, n int) uint64 {
	if Get(w, n-1, 1) == 0 {
		return w & low(n)
	}
	return w | ^low(n)
}

// Even tells whether w is a multiple of by.
func Even(w uint64, by uint64) bool {
	if by == 0 {
		// A rest by 0 would panic; the multiples of 0 are 0 alone.
		return w == 0
	}
	return w%by == 0
}

// Bool answers 1 of true, 0 of false.
func Bool(b bool) uint64 {
	if b {
		return 1
	}
	return 0
}
