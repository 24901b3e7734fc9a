// Package fix is layer 1: numbers with a fixed point: see shared/doc/01-fix.md.
package fix

// within is a number of bits, held within two bounds that aren't below 0. It
// has no sign, so that a shift by it can't be refused.
func within(n, least, most int) uint {
	if n < least {
		return uint(least)
	}
	if n > most {
		return uint(most)
	}
	return uint(n)
}

// Sat is a number in so many bits.
func Sat(x int64, n int) int64 {
	half := int64(1) << (within(n, 1, 63) - 1)
	if x < -half {
		return -half
	}
	if x > half-1 {
		return half - 1
	}
	return x
}

// Sat16 is a number in 16 bits.
func Sat16(x int64) int16 { return int16(Sat(x, 16)) }

// Sat32 is a number in 32 bits.
func Sat32(x int64) int32 { return int32(Sat(x, 32)) }

// Round is a number rounded by so many bits.
func Round(x int64, s int) int64 {
	by := within(s, 0, 62)
	if by == 0 {
		return x
	}
	// The half is added behind the shift, as the highest bit that falls out:
	// added ahead of it, it would go round near the greatest number.
	return x>>by + x>>(by-1)&1
}

// Mul15 is a product rounded by 15 bits.
func Mul15(a, b int32) int32 {
	return Sat32(Round(int64(a)*int64(b), 15))
}

// Low is the low bits.
func Low(x uint64, n int) uint64 {
	// A shift by 64 leaves nothing, and nothing less 1 is all bits.
	return x & (uint64(1)<<within(n, 0, 64) - 1)
}

// Sign is the low bits, the highest of which is a sign.
func Sign(x uint64, n int) int64 {
	above := 64 - within(n, 1, 64)
	// The shift back is of a number with a sign, so that it brings the sign down.
	return int64(x<<above) >> above
}

// Zig is a number without a sign for one with a sign.
func Zig(x int64) uint64 {
	// The shift by 63 is all bits below 0, which turns 2x into -2x - 1, also
	// where 2x is no int64.
	return uint64(x)<<1 ^ uint64(x>>63)
}

// Zag is the number of which Zig is that.
func Zag(x uint64) int64 {
	return int64(x>>1) ^ -int64(x&1)
}

// Lcg is the next number by chance.
func Lcg(s uint32) uint32 { return 1664525*s + 1013904223 }
