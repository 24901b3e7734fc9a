package wide_test

import (
	"math"
	"math/big"
	"slices"
	"testing"

	"spinet/wide"
)

// What is asked of each function is worked out here with math/big, by the
// chapter's words, and held against literal rows too.

var (
	least    = wide.Acc{Hi: math.MinInt64}
	greatest = wide.Acc{Hi: math.MaxInt64, Lo: math.MaxUint64}
)

func two(n int) *big.Int { return new(big.Int).Lsh(big.NewInt(1), uint(n)) }

func held(n, least, most int) int { return max(least, min(n, most)) }

// whole is Hi times 2^64, and Lo.
func whole(a wide.Acc) *big.Int {
	x := new(big.Int).Mul(big.NewInt(a.Hi), two(64))
	return x.Add(x, new(big.Int).SetUint64(a.Lo))
}

// brought is a whole number modulo 2^128, brought into the range.
func brought(x *big.Int) *big.Int {
	left := new(big.Int).Mod(x, two(128))
	if left.Cmp(two(127)) >= 0 {
		left.Sub(left, two(128))
	}
	return left
}

func same(got wide.Acc, want *big.Int) bool { return whole(got).Cmp(want) == 0 }

// wantRound is the greatest whole number that isn't above x / 2^s and a half.
func wantRound(x *big.Int, s int) *big.Int {
	s = held(s, 0, 127)
	twice := new(big.Int).Lsh(x, 1)
	twice.Add(twice, two(s))
	return twice.Div(twice, two(s+1)) // Div is cut downwards for a divisor above 0.
}

// wantSat is x held within -2^(n-1) and 2^(n-1) - 1.
func wantSat(x *big.Int, n int) *big.Int {
	half := two(held(n, 1, 63) - 1)
	low := new(big.Int).Neg(half)
	high := new(big.Int).Sub(half, big.NewInt(1))
	if x.Cmp(low) < 0 {
		return low
	}
	if x.Cmp(high) > 0 {
		return high
	}
	return x
}

// singles are numbers of 64 bits: those about each power of two, of either
// sign, both ends, and some in between.
func singles() []int64 {
	l := []int64{0, math.MinInt64, math.MinInt64 + 1, math.MaxInt64, math.MaxInt64 - 1,
		123456789, -123456789, 0x0123456789abcdef, -0x0123456789abcdef}
	for n := range 63 {
		p := int64(1) << n
		l = append(l, p-1, p, p+1, -p-1, -p, -p+1)
	}
	return l
}

// doubles are wide numbers: those about each power of two and about one and a
// half of it, of either sign, both ends, and some in between.
func doubles() []wide.Acc {
	l := []wide.Acc{{}, least, greatest, {Hi: math.MinInt64, Lo: 1}, {Hi: math.MaxInt64, Lo: math.MaxUint64 - 1},
		{Hi: math.MinInt64, Lo: math.MaxUint64}, {Hi: math.MaxInt64}, {Hi: -1}, {Hi: 1}, {Hi: -1, Lo: 1 << 63}, {Lo: math.MaxUint64},
		{Hi: 0x0123456789abcdef, Lo: 0xfedcba9876543210}, {Hi: -0x0123456789abcdef, Lo: 0x0f1e2d3c4b5a6978}}
	for n := range 127 {
		for _, half := range []int64{2, 3} {
			x := new(big.Int).Rsh(new(big.Int).Mul(two(n), big.NewInt(half)), 1)
			for d := int64(-1); d <= 1; d++ {
				y := new(big.Int).Add(x, big.NewInt(d))
				l = append(l, narrow(y), narrow(y.Neg(y)))
			}
		}
	}
	return l
}

// narrow is the wide number for a whole one.
func narrow(x *big.Int) wide.Acc {
	left := new(big.Int).Mod(x, two(128))
	low := new(big.Int).Mod(left, two(64))
	return wide.Acc{Hi: int64(new(big.Int).Rsh(left, 64).Uint64()), Lo: low.Uint64()}
}

// shifts are numbers of bits: all that may be, and those below and above.
func shifts() []int {
	l := []int{math.MinInt, math.MinInt + 1, math.MinInt32, -256, -128, -64, math.MaxInt32, math.MaxInt - 1, math.MaxInt, 1 << 32, 1<<32 + 3, 256}
	for n := -3; n <= 131; n++ {
		l = append(l, n)
	}
	return l
}

func TestExample(t *testing.T) {
	if got := wide.Mul(-1, 1); got != (wide.Acc{Hi: -1, Lo: math.MaxUint64}) {
		t.Error("Mul(-1, 1):", got)
	}
}

func TestOf(t *testing.T) {
	for _, c := range []struct {
		x    int64
		want wide.Acc
	}{
		{0, wide.Acc{}}, {7, wide.Acc{Lo: 7}}, {-1, wide.Acc{Hi: -1, Lo: math.MaxUint64}},
		{math.MaxInt64, wide.Acc{Lo: math.MaxInt64}}, {math.MinInt64, wide.Acc{Hi: -1, Lo: 1 << 63}},
	} {
		if got := wide.Of(c.x); got != c.want {
			t.Errorf("Of(%d): %v, not %v", c.x, got, c.want)
		}
	}
	for _, x := range singles() {
		if got := wide.Of(x); !same(got, big.NewInt(x)) {
			t.Fatalf("Of(%d): %v", x, got)
		}
	}
}

func TestMulRows(t *testing.T) {
	for _, c := range []struct {
		a, b int64
		want wide.Acc
	}{
		{3, 5, wide.Of(15)}, {-3, 5, wide.Of(-15)}, {-3, -5, wide.Of(15)}, {0, math.MinInt64, wide.Acc{}},
		{1 << 32, 1 << 32, wide.Acc{Hi: 1}}, {-1 << 32, 1 << 32, wide.Acc{Hi: -1}},
		{math.MaxInt64, math.MaxInt64, wide.Acc{Hi: 1<<62 - 1, Lo: 1}},
		{math.MinInt64, math.MinInt64, wide.Acc{Hi: 1 << 62}},
		{math.MinInt64, math.MaxInt64, wide.Acc{Hi: -1 << 62, Lo: 1 << 63}},
		{math.MinInt64, -1, wide.Acc{Lo: 1 << 63}}, {math.MaxInt64, -1, wide.Acc{Hi: -1, Lo: 1<<63 + 1}},
	} {
		if got := wide.Mul(c.a, c.b); got != c.want {
			t.Errorf("Mul(%d, %d): %v, not %v", c.a, c.b, got, c.want)
		}
		if got := wide.Mul(c.b, c.a); got != c.want {
			t.Errorf("Mul(%d, %d): %v, not %v", c.b, c.a, got, c.want)
		}
	}
}

func TestMulByDefinition(t *testing.T) {
	for _, a := range singles() {
		for _, b := range singles() {
			want := new(big.Int).Mul(big.NewInt(a), big.NewInt(b))
			if got := wide.Mul(a, b); !same(got, want) {
				t.Fatalf("Mul(%d, %d): %v, not %s", a, b, got, want)
			}
		}
	}
}

func TestPlusAndMinusRows(t *testing.T) {
	for _, c := range []struct{ a, b, sum, difference wide.Acc }{
		{wide.Of(5), wide.Of(7), wide.Of(12), wide.Of(-2)},
		{wide.Of(-5), wide.Of(7), wide.Of(2), wide.Of(-12)},
		{wide.Acc{Lo: math.MaxUint64}, wide.Of(1), wide.Acc{Hi: 1}, wide.Acc{Lo: math.MaxUint64 - 1}},
		{wide.Acc{Hi: 1}, wide.Of(1), wide.Acc{Hi: 1, Lo: 1}, wide.Acc{Lo: math.MaxUint64}},
		{wide.Acc{Lo: 1 << 63}, wide.Acc{Lo: 1 << 63}, wide.Acc{Hi: 1}, wide.Acc{}},
		{wide.Of(math.MaxInt64), wide.Of(math.MinInt64), wide.Of(-1), wide.Acc{Lo: math.MaxUint64}},
		{greatest, wide.Of(1), least, wide.Acc{Hi: math.MaxInt64, Lo: math.MaxUint64 - 1}},
		{least, wide.Of(1), wide.Acc{Hi: math.MinInt64, Lo: 1}, greatest},
		{least, wide.Of(-1), greatest, wide.Acc{Hi: math.MinInt64, Lo: 1}},
		{least, least, wide.Acc{}, wide.Acc{}},
		{greatest, greatest, wide.Of(-2), wide.Acc{}},
		{greatest, least, wide.Of(-1), wide.Of(-1)},
		{wide.Acc{}, least, least, least},
	} {
		if got := c.a.Plus(c.b); got != c.sum {
			t.Errorf("%v.Plus(%v): %v, not %v", c.a, c.b, got, c.sum)
		}
		if got := c.b.Plus(c.a); got != c.sum {
			t.Errorf("%v.Plus(%v): %v, not %v", c.b, c.a, got, c.sum)
		}
		if got := c.a.Minus(c.b); got != c.difference {
			t.Errorf("%v.Minus(%v): %v, not %v", c.a, c.b, got, c.difference)
		}
	}
}

func TestPairsByDefinition(t *testing.T) {
	l := doubles()
	wholes := make([]*big.Int, len(l))
	for i, a := range l {
		wholes[i] = whole(a)
	}
	for i, a := range l {
		for j, b := range l {
			x, y := wholes[i], wholes[j]
			if got, want := a.Plus(b), brought(new(big.Int).Add(x, y)); !same(got, want) {
				t.Fatalf("%v.Plus(%v): %v, not %s", a, b, got, want)
			}
			if got, want := a.Minus(b), brought(new(big.Int).Sub(x, y)); !same(got, want) {
				t.Fatalf("%v.Minus(%v): %v, not %s", a, b, got, want)
			}
			if got, want := a.Cmp(b), x.Cmp(y); got != want {
				t.Fatalf("%v.Cmp(%v): %d, not %d", a, b, got, want)
			}
		}
	}
}

func TestNeg(t *testing.T) {
	for _, c := range []struct{ a, want wide.Acc }{
		{wide.Of(2), wide.Of(-2)}, {wide.Of(-2), wide.Of(2)}, {wide.Acc{}, wide.Acc{}},
		{wide.Acc{Hi: 1}, wide.Acc{Hi: -1}}, {wide.Acc{Hi: -1}, wide.Acc{Hi: 1}},
		{wide.Of(math.MinInt64), wide.Acc{Lo: 1 << 63}},
		{greatest, wide.Acc{Hi: math.MinInt64, Lo: 1}}, {least, least},
	} {
		if got := c.a.Neg(); got != c.want {
			t.Errorf("%v.Neg(): %v, not %v", c.a, got, c.want)
		}
	}
	for _, a := range doubles() {
		if got, want := a.Neg(), brought(new(big.Int).Neg(whole(a))); !same(got, want) {
			t.Fatalf("%v.Neg(): %v, not %s", a, got, want)
		}
	}
}

func TestTimesRows(t *testing.T) {
	for _, c := range []struct {
		a    wide.Acc
		n    int64
		want wide.Acc
	}{
		{wide.Of(3), -5, wide.Of(-15)}, {wide.Of(-3), -5, wide.Of(15)}, {greatest, 0, wide.Acc{}},
		{wide.Acc{Hi: 1}, 3, wide.Acc{Hi: 3}}, {wide.Acc{Hi: 1}, -3, wide.Acc{Hi: -3}},
		{wide.Acc{Lo: math.MaxUint64}, 2, wide.Acc{Hi: 1, Lo: math.MaxUint64 - 1}},
		{wide.Acc{Lo: math.MaxUint64}, -1, wide.Acc{Hi: -1, Lo: 1}},
		{wide.Acc{Lo: 1 << 63}, math.MinInt64, wide.Acc{Hi: -1 << 62}},
		{wide.Acc{Hi: -1, Lo: 5}, 1, wide.Acc{Hi: -1, Lo: 5}},
		{greatest, 2, wide.Of(-2)}, {greatest, -1, wide.Acc{Hi: math.MinInt64, Lo: 1}},
		{least, 2, wide.Acc{}}, {least, 3, least}, {least, -1, least},
		{wide.Acc{Hi: 1 << 62}, 2, least}, {wide.Acc{Hi: 1}, math.MinInt64, least},
		{greatest, math.MinInt64, wide.Acc{Lo: 1 << 63}}, {greatest, math.MaxInt64, wide.Acc{Hi: math.MaxInt64, Lo: 1<<63 + 1}},
	} {
		if got := c.a.Times(c.n); got != c.want {
			t.Errorf("%v.Times(%d): %v, not %v", c.a, c.n, got, c.want)
		}
	}
}

func TestTimesByDefinition(t *testing.T) {
	for _, a := range doubles() {
		x := whole(a)
		for _, n := range singles() {
			want := brought(new(big.Int).Mul(x, big.NewInt(n)))
			if got := a.Times(n); !same(got, want) {
				t.Fatalf("%v.Times(%d): %v, not %s", a, n, got, want)
			}
		}
	}
}

func TestShrAndRoundRows(t *testing.T) {
	for _, c := range []struct {
		a           wide.Acc
		s           int
		shr, rounds wide.Acc
	}{
		// Halves go upwards, of either sign.
		{wide.Of(1), 1, wide.Of(0), wide.Of(1)}, {wide.Of(-1), 1, wide.Of(-1), wide.Of(0)},
		{wide.Of(5), 1, wide.Of(2), wide.Of(3)}, {wide.Of(-5), 1, wide.Of(-3), wide.Of(-2)},
		{wide.Of(-6), 2, wide.Of(-2), wide.Of(-1)}, {wide.Of(-7), 2, wide.Of(-2), wide.Of(-2)},
		{wide.Of(4), 2, wide.Of(1), wide.Of(1)}, {wide.Of(5), 2, wide.Of(1), wide.Of(1)},
		// The word's border.
		{wide.Acc{Hi: 1}, 1, wide.Acc{Lo: 1 << 63}, wide.Acc{Lo: 1 << 63}},
		{wide.Acc{Hi: 3}, 63, wide.Of(6), wide.Of(6)}, {wide.Acc{Hi: 3}, 64, wide.Of(3), wide.Of(3)},
		{wide.Acc{Hi: 3}, 65, wide.Of(1), wide.Of(2)}, {wide.Acc{Hi: -3}, 65, wide.Of(-2), wide.Of(-1)},
		{wide.Acc{Lo: 1 << 63}, 64, wide.Of(0), wide.Of(1)}, {wide.Acc{Lo: 1<<63 - 1}, 64, wide.Of(0), wide.Of(0)},
		{wide.Acc{Hi: -1, Lo: 1 << 63}, 64, wide.Of(-1), wide.Of(0)}, {wide.Acc{Hi: -1, Lo: 1<<63 - 1}, 64, wide.Of(-1), wide.Of(-1)},
		{wide.Acc{Lo: math.MaxUint64}, 1, wide.Acc{Lo: math.MaxInt64}, wide.Acc{Lo: 1 << 63}},
		{wide.Acc{Hi: 1, Lo: math.MaxUint64}, 1, wide.Acc{Lo: math.MaxUint64}, wide.Acc{Hi: 1}},
		// The ends, and the bounds of s.
		{greatest, 0, greatest, greatest}, {least, 0, least, least},
		{greatest, -1, greatest, greatest}, {least, math.MinInt, least, least}, {wide.Of(9), -64, wide.Of(9), wide.Of(9)},
		{greatest, 1, wide.Acc{Hi: 1<<62 - 1, Lo: math.MaxUint64}, wide.Acc{Hi: 1 << 62}},
		{least, 1, wide.Acc{Hi: -1 << 62}, wide.Acc{Hi: -1 << 62}},
		{greatest, 126, wide.Of(1), wide.Of(2)}, {least, 126, wide.Of(-2), wide.Of(-2)},
		{greatest, 127, wide.Of(0), wide.Of(1)}, {least, 127, wide.Of(-1), wide.Of(-1)},
		{wide.Acc{Hi: 1 << 62}, 127, wide.Of(0), wide.Of(1)}, {wide.Acc{Hi: 1<<62 - 1, Lo: math.MaxUint64}, 127, wide.Of(0), wide.Of(0)},
		{wide.Acc{Hi: -1 << 62}, 127, wide.Of(-1), wide.Of(0)}, {wide.Acc{Hi: -1<<62 - 1, Lo: math.MaxUint64}, 127, wide.Of(-1), wide.Of(-1)},
		{greatest, 128, wide.Of(0), wide.Of(1)}, {least, 128, wide.Of(-1), wide.Of(-1)},
		{greatest, math.MaxInt, wide.Of(0), wide.Of(1)}, {least, math.MaxInt, wide.Of(-1), wide.Of(-1)},
	} {
		if got := c.a.Shr(c.s); got != c.shr {
			t.Errorf("%v.Shr(%d): %v, not %v", c.a, c.s, got, c.shr)
		}
		if got := c.a.Round(c.s); got != c.rounds {
			t.Errorf("%v.Round(%d): %v, not %v", c.a, c.s, got, c.rounds)
		}
	}
}

func TestShrAndRoundByDefinition(t *testing.T) {
	for _, a := range doubles() {
		x := whole(a)
		for _, s := range shifts() {
			want := new(big.Int).Div(x, two(held(s, 0, 127)))
			if got := a.Shr(s); !same(got, want) {
				t.Fatalf("%v.Shr(%d): %v, not %s", a, s, got, want)
			}
			if got, want := a.Round(s), wantRound(x, s); !same(got, want) {
				t.Fatalf("%v.Round(%d): %v, not %s", a, s, got, want)
			}
		}
	}
}

func TestCmpRows(t *testing.T) {
	// From the least to the greatest.
	l := []wide.Acc{least, {Hi: math.MinInt64, Lo: 1}, {Hi: -2, Lo: math.MaxUint64}, {Hi: -1}, wide.Of(math.MinInt64), wide.Of(-1),
		{}, wide.Of(1), wide.Of(math.MaxInt64), {Lo: 1 << 63}, {Lo: math.MaxUint64}, {Hi: 1}, {Hi: math.MaxInt64}, greatest}
	for i, a := range l {
		for j, b := range l {
			want := 0
			if i < j {
				want = -1
			} else if i > j {
				want = 1
			}
			if got := a.Cmp(b); got != want {
				t.Errorf("%v.Cmp(%v): %d, not %d", a, b, got, want)
			}
		}
	}
}

func TestInt(t *testing.T) {
	for _, c := range []struct {
		a  wide.Acc
		x  int64
		ok bool
	}{
		{wide.Acc{}, 0, true}, {wide.Of(-9), -9, true}, {wide.Of(9), 9, true},
		{wide.Of(math.MaxInt64), math.MaxInt64, true}, {wide.Of(math.MinInt64), math.MinInt64, true},
		{wide.Acc{Lo: 1 << 63}, 0, false}, {wide.Acc{Hi: -1, Lo: 1<<63 - 1}, 0, false},
		{wide.Acc{Lo: math.MaxUint64}, 0, false}, {wide.Acc{Hi: -1}, 0, false},
		{wide.Acc{Hi: 1}, 0, false}, {wide.Acc{Hi: 1, Lo: 5}, 0, false}, {wide.Acc{Hi: -2, Lo: math.MaxUint64}, 0, false},
		{greatest, 0, false}, {least, 0, false},
	} {
		if x, ok := c.a.Int(); x != c.x || ok != c.ok {
			t.Errorf("%v.Int(): %d %t, not %d %t", c.a, x, ok, c.x, c.ok)
		}
	}
	for _, a := range doubles() {
		want, fits := int64(0), whole(a).IsInt64()
		if fits {
			want = whole(a).Int64()
		}
		if x, ok := a.Int(); x != want || ok != fits {
			t.Fatalf("%v.Int(): %d %t, not %d %t", a, x, ok, want, fits)
		}
	}
}

func TestSatRows(t *testing.T) {
	for _, c := range []struct {
		a    wide.Acc
		n    int
		want int64
	}{
		{wide.Of(77), 8, 77}, {wide.Of(127), 8, 127}, {wide.Of(128), 8, 127}, {wide.Of(-128), 8, -128}, {wide.Of(-129), 8, -128},
		{wide.Acc{Hi: 1}, 8, 127}, {wide.Acc{Hi: -2}, 32, math.MinInt32}, {wide.Acc{Lo: 1 << 63}, 32, math.MaxInt32}, {wide.Acc{Hi: -1, Lo: 1<<63 - 1}, 16, -1 << 15},
		{greatest, 1, 0}, {least, 1, -1}, {wide.Of(0), 1, 0}, {wide.Of(1), 1, 0}, {wide.Of(-1), 1, -1}, {wide.Of(-2), 1, -1},
		{greatest, 0, 0}, {least, 0, -1}, {greatest, math.MinInt, 0}, {least, -5, -1},
		{wide.Of(1<<62 - 1), 63, 1<<62 - 1}, {wide.Of(1 << 62), 63, 1<<62 - 1}, {wide.Of(-1 << 62), 63, -1 << 62}, {wide.Of(-1<<62 - 1), 63, -1 << 62},
		{greatest, 63, 1<<62 - 1}, {least, 63, -1 << 62}, {greatest, 64, 1<<62 - 1}, {least, 128, -1 << 62}, {greatest, math.MaxInt, 1<<62 - 1},
	} {
		if got := c.a.Sat(c.n); got != c.want {
			t.Errorf("%v.Sat(%d): %d, not %d", c.a, c.n, got, c.want)
		}
	}
}

func TestSatByDefinition(t *testing.T) {
	for _, a := range doubles() {
		x := whole(a)
		for _, n := range shifts() {
			if got, want := a.Sat(n), wantSat(x, n); want.Cmp(big.NewInt(got)) != 0 {
				t.Fatalf("%v.Sat(%d): %d, not %s", a, n, got, want)
			}
		}
	}
}

func TestSum(t *testing.T) {
	for _, c := range []struct {
		l    []wide.Acc
		want wide.Acc
	}{
		{nil, wide.Acc{}}, {[]wide.Acc{}, wide.Acc{}}, {[]wide.Acc{wide.Of(-9)}, wide.Of(-9)}, {[]wide.Acc{least}, least},
		{[]wide.Acc{wide.Of(1), wide.Of(2), wide.Of(-9)}, wide.Of(-6)},
		{[]wide.Acc{{Lo: math.MaxUint64}, {Lo: math.MaxUint64}, {Lo: 2}}, wide.Acc{Hi: 2}},
		{[]wide.Acc{greatest, wide.Of(1)}, least}, {[]wide.Acc{greatest, wide.Of(1), wide.Of(-1)}, greatest},
		{[]wide.Acc{least, least}, wide.Acc{}}, {[]wide.Acc{greatest, greatest, greatest}, wide.Acc{Hi: math.MaxInt64, Lo: math.MaxUint64 - 2}},
	} {
		given := slices.Clone(c.l)
		if got := wide.Sum(c.l...); got != c.want {
			t.Errorf("Sum(%v): %v, not %v", given, got, c.want)
		}
		if !slices.Equal(c.l, given) {
			t.Errorf("Sum(%v) left %v", given, c.l)
		}
	}
	if got := wide.Sum(); got != (wide.Acc{}) {
		t.Error("Sum():", got)
	}
	l, want := doubles(), new(big.Int)
	for i, a := range l {
		if got := wide.Sum(l[:i]...); !same(got, brought(want)) {
			t.Fatalf("Sum of the first %d: %v, not %s", i, got, brought(want))
		}
		want.Add(want, whole(a))
	}
}
