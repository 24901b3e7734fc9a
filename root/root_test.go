package root_test

import (
	"math"
	"math/big"
	"slices"
	"testing"

	"spinet/root"
)

// What is asked of each function is worked out here with math/big, by the
// chapter's words, and held against literal rows too.

func held(x, most int64) int64 { return max(-most, min(x, most)) }

func natural(x uint64) *big.Int { return new(big.Int).SetUint64(x) }

func square(x *big.Int) *big.Int { return new(big.Int).Mul(x, x) }

// isRoot tells whether r is the greatest whole number of which the square
// isn't above x.
func isRoot(r uint64, x *big.Int) bool {
	next := new(big.Int).Add(natural(r), big.NewInt(1))
	return square(natural(r)).Cmp(x) <= 0 && square(next).Cmp(x) > 0
}

// wantNorm is the sum of the squares of the first 512, each held within -2^27
// and 2^27.
func wantNorm(l []int32) *big.Int {
	sum := new(big.Int)
	for i, x := range l {
		if i < 512 {
			sum.Add(sum, square(big.NewInt(held(int64(x), 1<<27))))
		}
	}
	return sum
}

// wantPart is the quotient, cut towards 0.
func wantPart(x int32, gain int64, length uint64) *big.Int {
	if length == 0 || natural(length).Cmp(natural(1<<62)) > 0 {
		return new(big.Int)
	}
	product := new(big.Int).Mul(big.NewInt(int64(x)), big.NewInt(held(gain, 1<<30)))
	return product.Quo(product, natural(length)) // Quo is cut towards 0.
}

func many(n int, x int32) []int32 { return slices.Repeat([]int32{x}, n) }

// words are numbers without a sign: those about each power of two and about
// the square of each such number, and the greatest.
func words() []uint64 {
	l := []uint64{0, math.MaxUint64, math.MaxUint64 - 1, 123456789, 0xfedcba9876543210}
	for n := range 64 {
		for d := uint64(0); d < 3; d++ {
			p := uint64(1)<<n + d - 1
			l = append(l, p)
			if p <= math.MaxUint32 {
				l = append(l, p*p-1, p*p, p*p+1)
			}
		}
	}
	return l
}

// smalls are numbers of 32 bits: those about each power of two, of either
// sign, both ends, and some in between.
func smalls() []int32 {
	l := []int32{0, math.MinInt32, math.MinInt32 + 1, math.MaxInt32, math.MaxInt32 - 1, 1234567, -1234567}
	for n := range 31 {
		p := int32(1) << n
		l = append(l, p-1, p, p+1, -p-1, -p, -p+1)
	}
	return l
}

// gains are numbers of 64 bits: those about each power of two, of either sign,
// both ends, and some in between.
func gains() []int64 {
	l := []int64{0, math.MinInt64, math.MinInt64 + 1, math.MaxInt64, math.MaxInt64 - 1, 987654321, -987654321}
	for n := range 63 {
		p := int64(1) << n
		l = append(l, p-1, p, p+1, -p-1, -p, -p+1)
	}
	return l
}

func TestExamples(t *testing.T) {
	if got := root.Sqrt(8); got != 2 {
		t.Error("Sqrt(8):", got)
	}
	if got := root.Length(3, 4); got != 5 {
		t.Error("Length(3, 4):", got)
	}
	if got := root.Part(-7, 2, 4); got != -3 {
		t.Error("Part(-7, 2, 4):", got)
	}
}

func TestSqrtRows(t *testing.T) {
	for _, c := range []struct{ x, want uint64 }{
		{0, 0}, {1, 1}, {2, 1}, {3, 1}, {4, 2}, {5, 2}, {8, 2}, {9, 3}, {10, 3}, {15, 3}, {16, 4}, {17, 4},
		{999999, 999}, {1000000, 1000}, {1000001, 1000}, {1002000, 1000}, {1002001, 1001},
		{1<<32 - 1, 1<<16 - 1}, {1 << 32, 1 << 16}, {1<<62 - 1, 1<<31 - 1}, {1 << 62, 1 << 31}, {1<<63 - 1, 3037000499}, {1 << 63, 3037000499},
		{math.MaxUint32*math.MaxUint32 - 1, math.MaxUint32 - 1}, {math.MaxUint32 * math.MaxUint32, math.MaxUint32},
		{math.MaxUint32*math.MaxUint32 + 1, math.MaxUint32}, {math.MaxUint64 - 1, math.MaxUint32}, {math.MaxUint64, math.MaxUint32},
	} {
		if got := root.Sqrt(c.x); got != c.want {
			t.Errorf("Sqrt(%d): %d, not %d", c.x, got, c.want)
		}
	}
}

func TestSqrtByDefinition(t *testing.T) {
	for _, x := range words() {
		if got := root.Sqrt(x); !isRoot(got, natural(x)) {
			t.Fatalf("Sqrt(%d): %d", x, got)
		}
	}
	for x := range uint64(10000) {
		if got := root.Sqrt(x); !isRoot(got, natural(x)) {
			t.Fatalf("Sqrt(%d): %d", x, got)
		}
	}
}

func TestNormAndLengthRows(t *testing.T) {
	for _, c := range []struct {
		name         string
		l            []int32
		norm, length uint64
	}{
		{"no list", nil, 0, 0}, {"an empty list", []int32{}, 0, 0}, {"0", []int32{0}, 0, 0}, {"-9", []int32{-9}, 81, 9},
		{"1, -2, 3", []int32{1, -2, 3}, 14, 3}, {"-5, 12", []int32{-5, 12}, 169, 13}, {"1, 1", []int32{1, 1}, 2, 1},
		// The bounds of a number.
		{"2^27 - 1", []int32{1<<27 - 1}, (1<<27 - 1) * (1<<27 - 1), 1<<27 - 1}, {"2^27", []int32{1 << 27}, 1 << 54, 1 << 27},
		{"2^27 + 1", []int32{1<<27 + 1}, 1 << 54, 1 << 27}, {"the greatest", []int32{math.MaxInt32}, 1 << 54, 1 << 27},
		{"-2^27 + 1", []int32{-1<<27 + 1}, (1<<27 - 1) * (1<<27 - 1), 1<<27 - 1}, {"-2^27", []int32{-1 << 27}, 1 << 54, 1 << 27},
		{"-2^27 - 1", []int32{-1<<27 - 1}, 1 << 54, 1 << 27}, {"the least", []int32{math.MinInt32}, 1 << 54, 1 << 27},
		// The bounds of a list.
		{"511 ones", many(511, 1), 511, 22}, {"512 ones", many(512, -1), 512, 22}, {"513 ones", many(513, 1), 512, 22}, {"5000 ones", many(5000, 1), 512, 22},
		{"one at the 512th", append(many(511, 0), 7), 49, 7}, {"one behind the 512th", append(many(512, 0), 7), 0, 0},
		{"one at the first of 513", append([]int32{7}, many(512, 0)...), 49, 7},
		{"511 of the greatest", many(511, math.MaxInt32), 511 << 54, 3034033229},
		{"512 of the greatest", many(512, math.MaxInt32), 1 << 63, 3037000499}, {"600 of the least", many(600, math.MinInt32), 1 << 63, 3037000499},
	} {
		given := slices.Clone(c.l)
		if got := root.Norm(c.l...); got != c.norm {
			t.Errorf("Norm of %s: %d, not %d", c.name, got, c.norm)
		}
		if got := root.Length(c.l...); got != c.length {
			t.Errorf("Length of %s: %d, not %d", c.name, got, c.length)
		}
		if !slices.Equal(c.l, given) {
			t.Errorf("the list of %s was written into", c.name)
		}
	}
	if norm, length := root.Norm(), root.Length(); norm != 0 || length != 0 {
		t.Error("of nothing:", norm, length)
	}
}

func TestNormAndLengthByDefinition(t *testing.T) {
	var lists [][]int32
	for _, x := range smalls() {
		lists = append(lists, []int32{x}, many(3, x), many(512, x), many(700, x))
		for _, y := range smalls() {
			lists = append(lists, []int32{x, y})
		}
	}
	all := slices.Concat(smalls(), smalls(), smalls())
	for n := range all {
		lists = append(lists, all[:n])
	}
	for _, l := range lists {
		want := wantNorm(l)
		if got := root.Norm(l...); natural(got).Cmp(want) != 0 {
			t.Fatalf("Norm(%v): %d, not %s", l, got, want)
		}
		if got := root.Length(l...); !isRoot(got, want) {
			t.Fatalf("Length(%v): %d of %s", l, got, want)
		}
	}
}

func TestPartRows(t *testing.T) {
	for _, c := range []struct {
		x      int32
		gain   int64
		length uint64
		want   int64
	}{
		// Cut towards 0, of either sign.
		{7, 3, 5, 4}, {-7, 3, 5, -4}, {7, -3, 5, -4}, {-7, -3, 5, 4}, {1, 1, 2, 0}, {-1, 1, 2, 0}, {-3, 1, 2, -1}, {-4, 1, 2, -2},
		{0, 9, 5, 0}, {9, 0, 5, 0}, {9, 9, 1, 81},
		// The bounds of a gain.
		{1, 1<<30 - 1, 1, 1<<30 - 1}, {1, 1 << 30, 1, 1 << 30}, {1, 1<<30 + 1, 1, 1 << 30}, {1, math.MaxInt64, 1, 1 << 30},
		{1, -1<<30 + 1, 1, -1<<30 + 1}, {1, -1 << 30, 1, -1 << 30}, {1, -1<<30 - 1, 1, -1 << 30}, {1, math.MinInt64, 1, -1 << 30},
		// A number is taken as it is, to the ends.
		{math.MinInt32, 1 << 30, 1, -1 << 61}, {math.MinInt32, math.MinInt64, 1, 1 << 61},
		{math.MaxInt32, 1 << 30, 1, 1<<61 - 1<<30}, {1<<27 + 1, 1, 1, 1<<27 + 1}, {-1<<27 - 1, 1, 1, -1<<27 - 1},
		// The bounds of a length.
		{9, 9, 0, 0}, {math.MinInt32, math.MinInt64, 0, 0},
		{math.MinInt32, -1 << 30, 1 << 61, 1}, {math.MinInt32, -1 << 30, 1<<61 + 1, 0}, {math.MinInt32, 1 << 30, 1 << 61, -1}, {math.MinInt32, 1 << 30, 1 << 62, 0},
		{math.MinInt32, 1 << 30, 1<<62 + 1, 0}, {9, 9, 1 << 63, 0}, {9, 9, 1<<63 + 1, 0}, {math.MinInt32, 1 << 30, math.MaxUint64, 0},
		// As an int64 these lengths were -1 and -9.
		{9, 9, math.MaxUint64, 0}, {9, 9, math.MaxUint64 - 8, 0},
	} {
		if got := root.Part(c.x, c.gain, c.length); got != c.want {
			t.Errorf("Part(%d, %d, %d): %d, not %d", c.x, c.gain, c.length, got, c.want)
		}
	}
}

func TestPartByDefinition(t *testing.T) {
	lengths := words()
	for _, x := range smalls() {
		for _, gain := range gains() {
			// Not all lengths for each pair, but each for many pairs.
			for i := int(uint32(x)%7+uint32(gain)%5) % 11; i < len(lengths); i += 11 {
				want := wantPart(x, gain, lengths[i])
				if got := root.Part(x, gain, lengths[i]); want.Cmp(big.NewInt(got)) != 0 {
					t.Fatalf("Part(%d, %d, %d): %d, not %s", x, gain, lengths[i], got, want)
				}
			}
		}
	}
}
