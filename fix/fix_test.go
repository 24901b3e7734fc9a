package fix_test

import (
	"math"
	"math/big"
	"testing"

	"spinet/fix"
)

// The chapter speaks of whole numbers without bounds, so what is asked of each
// function is worked out here with math/big, and held against literal rows too.

func two(n int) *big.Int { return new(big.Int).Lsh(big.NewInt(1), uint(n)) }

func held(n, least, most int) int { return max(least, min(n, most)) }

// wantSat is x held within -2^(n-1) and 2^(n-1) - 1.
func wantSat(x *big.Int, n int) *big.Int {
	half := two(held(n, 1, 63) - 1)
	least := new(big.Int).Neg(half)
	most := new(big.Int).Sub(half, big.NewInt(1))
	if x.Cmp(least) < 0 {
		return least
	}
	if x.Cmp(most) > 0 {
		return most
	}
	return x
}

// wantRound is the greatest whole number that isn't above x / 2^s and a half.
func wantRound(x *big.Int, s int) *big.Int {
	s = held(s, 0, 62)
	twice := new(big.Int).Lsh(x, 1)
	twice.Add(twice, two(s))
	return twice.Div(twice, two(s+1)) // Div is cut downwards for a divisor above 0.
}

func wantSign(x uint64, n int) *big.Int {
	n = held(n, 1, 64)
	left := new(big.Int).Mod(new(big.Int).SetUint64(x), two(n))
	if left.Cmp(two(n-1)) >= 0 {
		left.Sub(left, two(n))
	}
	return left
}

func wantZig(x int64) *big.Int {
	v := new(big.Int).Lsh(big.NewInt(x), 1)
	if x < 0 {
		v.Neg(v).Sub(v, big.NewInt(1))
	}
	return v
}

func same(got int64, want *big.Int) bool { return want.IsInt64() && want.Int64() == got }

// numbers are those about each power of two and about one and a half of it, of
// either sign, up to both ends of int64, and some in between.
func numbers() []int64 {
	l := []int64{0, math.MinInt64, math.MinInt64 + 1, math.MaxInt64, math.MaxInt64 - 1,
		123456789, -123456789, 0x0123456789abcdef, -0x0123456789abcdef}
	for n := range 63 {
		p := int64(1) << n
		for d := int64(-2); d <= 2; d++ {
			l = append(l, p+d, -p+d)
			if n > 0 && n < 62 {
				l = append(l, p+p/2+d, -p-p/2+d)
			}
		}
	}
	return l
}

// counts are numbers of bits: all that may be, and those below and above.
func counts() []int {
	l := []int{math.MinInt, math.MinInt + 1, math.MinInt32, -256, -64, math.MaxInt32, math.MaxInt - 1, math.MaxInt, 1 << 32, 1<<32 + 3, 128, 256}
	for n := -3; n <= 70; n++ {
		l = append(l, n)
	}
	return l
}

func TestExamples(t *testing.T) {
	if got := fix.Round(-5, 1); got != -2 {
		t.Error("Round(-5, 1):", got)
	}
	if got := fix.Round(5, 1); got != 3 {
		t.Error("Round(5, 1):", got)
	}
	if got := fix.Zig(-3); got != 5 {
		t.Error("Zig(-3):", got)
	}
	if got := fix.Sign(7, 3); got != -1 {
		t.Error("Sign(7, 3):", got)
	}
}

func TestSatRows(t *testing.T) {
	for _, c := range []struct {
		x    int64
		n    int
		want int64
	}{
		{127, 8, 127}, {128, 8, 127}, {-128, 8, -128}, {-129, 8, -128}, {5, 8, 5},
		{0, 1, 0}, {1, 1, 0}, {-1, 1, -1}, {-2, 1, -1},
		{9, 0, 0}, {-9, -7, -1}, {9, math.MinInt, 0},
		{math.MaxInt64, 63, 1<<62 - 1}, {math.MinInt64, 63, -1 << 62},
		{1<<62 - 1, 63, 1<<62 - 1}, {1 << 62, 63, 1<<62 - 1}, {-1 << 62, 63, -1 << 62}, {-1<<62 - 1, 63, -1 << 62},
		{math.MaxInt64, 64, 1<<62 - 1}, {math.MinInt64, math.MaxInt, -1 << 62},
	} {
		if got := fix.Sat(c.x, c.n); got != c.want {
			t.Errorf("Sat(%d, %d): %d, not %d", c.x, c.n, got, c.want)
		}
	}
}

func TestSatByDefinition(t *testing.T) {
	for _, x := range numbers() {
		for _, n := range counts() {
			if got, want := fix.Sat(x, n), wantSat(big.NewInt(x), n); !same(got, want) {
				t.Fatalf("Sat(%d, %d): %d, not %s", x, n, got, want)
			}
		}
	}
}

func TestSat16And32(t *testing.T) {
	for _, c := range []struct {
		x      int64
		want16 int16
		want32 int32
	}{
		{0, 0, 0}, {-1, -1, -1}, {32767, 32767, 32767}, {32768, 32767, 32768},
		{-32768, -32768, -32768}, {-32769, -32768, -32769}, {1 << 16, 32767, 1 << 16},
		{math.MaxInt32, 32767, math.MaxInt32}, {math.MaxInt32 + 1, 32767, math.MaxInt32},
		{math.MinInt32, -32768, math.MinInt32}, {math.MinInt32 - 1, -32768, math.MinInt32},
		{1 << 32, 32767, math.MaxInt32}, {-1 << 32, -32768, math.MinInt32},
		{math.MaxInt64, 32767, math.MaxInt32}, {math.MinInt64, -32768, math.MinInt32},
	} {
		if got := fix.Sat16(c.x); got != c.want16 {
			t.Errorf("Sat16(%d): %d, not %d", c.x, got, c.want16)
		}
		if got := fix.Sat32(c.x); got != c.want32 {
			t.Errorf("Sat32(%d): %d, not %d", c.x, got, c.want32)
		}
	}
	for _, x := range numbers() {
		if got, want := fix.Sat16(x), wantSat(big.NewInt(x), 16); !same(int64(got), want) {
			t.Fatalf("Sat16(%d): %d, not %s", x, got, want)
		}
		if got, want := fix.Sat32(x), wantSat(big.NewInt(x), 32); !same(int64(got), want) {
			t.Fatalf("Sat32(%d): %d, not %s", x, got, want)
		}
	}
}

func TestRoundRows(t *testing.T) {
	for _, c := range []struct {
		x    int64
		s    int
		want int64
	}{
		{1, 1, 1}, {-1, 1, 0}, {3, 1, 2}, {-3, 1, -1}, // halves go upwards, of either sign
		{2, 2, 1}, {1, 2, 0}, {-2, 2, 0}, {-3, 2, -1}, {-6, 2, -1}, {-7, 2, -2}, {4, 2, 1},
		{7, 0, 7}, {-7, 0, -7}, {7, -1, 7}, {math.MinInt64, math.MinInt, math.MinInt64}, {math.MaxInt64, 0, math.MaxInt64},
		{math.MaxInt64, 1, 1 << 62}, {math.MinInt64, 1, -1 << 62}, {math.MinInt64 + 1, 1, -1<<62 + 1},
		{1 << 61, 62, 1}, {1<<61 - 1, 62, 0}, {-1 << 61, 62, 0}, {-1<<61 - 1, 62, -1},
		{math.MaxInt64, 62, 2}, {math.MinInt64, 62, -2},
		{1 << 62, 63, 1}, {1 << 62, 64, 1}, {math.MinInt64, math.MaxInt, -2},
	} {
		if got := fix.Round(c.x, c.s); got != c.want {
			t.Errorf("Round(%d, %d): %d, not %d", c.x, c.s, got, c.want)
		}
	}
}

func TestRoundByDefinition(t *testing.T) {
	for _, x := range numbers() {
		for _, s := range counts() {
			if got, want := fix.Round(x, s), wantRound(big.NewInt(x), s); !same(got, want) {
				t.Fatalf("Round(%d, %d): %d, not %s", x, s, got, want)
			}
		}
	}
}

func TestMul15Rows(t *testing.T) {
	for _, c := range []struct{ a, b, want int32 }{
		{32768, 7, 7}, {32768, -7, -7}, {16384, 1, 1}, {16384, -1, 0}, {16383, 1, 0}, {16385, -1, -1},
		{16384, 3, 2}, {16384, -3, -1}, {0, math.MinInt32, 0},
		{math.MaxInt32, 32768, math.MaxInt32}, {math.MinInt32, 32768, math.MinInt32},
		{math.MinInt32, -32768, math.MaxInt32}, {math.MaxInt32, 32769, math.MaxInt32}, {math.MinInt32, 32769, math.MinInt32},
		{math.MinInt32, math.MinInt32, math.MaxInt32}, {math.MinInt32, math.MaxInt32, math.MinInt32}, {math.MaxInt32, math.MaxInt32, math.MaxInt32},
	} {
		if got := fix.Mul15(c.a, c.b); got != c.want {
			t.Errorf("Mul15(%d, %d): %d, not %d", c.a, c.b, got, c.want)
		}
	}
}

func TestMul15ByDefinition(t *testing.T) {
	var l []int32
	for _, x := range numbers() {
		if x == int64(int32(x)) {
			l = append(l, int32(x))
		}
	}
	l = append(l, math.MinInt32, math.MaxInt32)
	for _, a := range l {
		for _, b := range l {
			product := new(big.Int).Mul(big.NewInt(int64(a)), big.NewInt(int64(b)))
			if got, want := fix.Mul15(a, b), wantSat(wantRound(product, 15), 32); !same(int64(got), want) {
				t.Fatalf("Mul15(%d, %d): %d, not %s", a, b, got, want)
			}
		}
	}
}

func TestLowRows(t *testing.T) {
	for _, c := range []struct {
		x    uint64
		n    int
		want uint64
	}{
		{0xabcd, 8, 0xcd}, {0xabcd, 4, 0xd}, {6, 1, 0}, {7, 1, 1},
		{math.MaxUint64, 0, 0}, {math.MaxUint64, -1, 0}, {math.MaxUint64, math.MinInt, 0},
		{math.MaxUint64, 63, math.MaxInt64}, {math.MaxUint64, 64, math.MaxUint64},
		{1 << 63, 63, 0}, {1 << 63, 64, 1 << 63}, {1 << 63, 65, 1 << 63}, {math.MaxUint64, math.MaxInt, math.MaxUint64},
	} {
		if got := fix.Low(c.x, c.n); got != c.want {
			t.Errorf("Low(%d, %d): %d, not %d", c.x, c.n, got, c.want)
		}
	}
}

func TestLowByDefinition(t *testing.T) {
	for _, v := range numbers() {
		x := uint64(v)
		for _, n := range counts() {
			want := new(big.Int).Mod(new(big.Int).SetUint64(x), two(held(n, 0, 64)))
			if got := fix.Low(x, n); got != want.Uint64() {
				t.Fatalf("Low(%d, %d): %d, not %s", x, n, got, want)
			}
		}
	}
}

func TestSignRows(t *testing.T) {
	for _, c := range []struct {
		x    uint64
		n    int
		want int64
	}{
		{3, 3, 3}, {4, 3, -4}, {12, 3, -4}, {11, 3, 3}, {0x80, 8, -128}, {0x17f, 8, 127},
		{1, 1, -1}, {2, 1, 0}, {3, 0, -1}, {2, 0, 0}, {3, -9, -1}, {3, math.MinInt, -1},
		{1 << 62, 63, -1 << 62}, {1<<62 - 1, 63, 1<<62 - 1}, {1 << 63, 63, 0},
		{1 << 63, 64, math.MinInt64}, {math.MaxInt64, 64, math.MaxInt64}, {math.MaxUint64, 64, -1},
		{1 << 63, 65, math.MinInt64}, {math.MaxUint64, math.MaxInt, -1},
	} {
		if got := fix.Sign(c.x, c.n); got != c.want {
			t.Errorf("Sign(%d, %d): %d, not %d", c.x, c.n, got, c.want)
		}
	}
}

func TestSignByDefinition(t *testing.T) {
	for _, v := range numbers() {
		x := uint64(v)
		for _, n := range counts() {
			if got, want := fix.Sign(x, n), wantSign(x, n); !same(got, want) {
				t.Fatalf("Sign(%d, %d): %d, not %s", x, n, got, want)
			}
		}
	}
}

func TestZigAndZagRows(t *testing.T) {
	for _, c := range []struct {
		x int64
		z uint64
	}{
		{0, 0}, {-1, 1}, {1, 2}, {-2, 3}, {2, 4}, {-3, 5},
		{1 << 62, 1 << 63}, {-1 << 62, 1<<63 - 1},
		{math.MaxInt64, math.MaxUint64 - 1}, {math.MinInt64 + 1, math.MaxUint64 - 2}, {math.MinInt64, math.MaxUint64},
	} {
		if got := fix.Zig(c.x); got != c.z {
			t.Errorf("Zig(%d): %d, not %d", c.x, got, c.z)
		}
		if got := fix.Zag(c.z); got != c.x {
			t.Errorf("Zag(%d): %d, not %d", c.z, got, c.x)
		}
	}
}

func TestZigAndZagByDefinition(t *testing.T) {
	for _, x := range numbers() {
		z := fix.Zig(x)
		if want := wantZig(x); !want.IsUint64() || want.Uint64() != z {
			t.Fatalf("Zig(%d): %d, not %s", x, z, want)
		}
		if got := fix.Zag(z); got != x {
			t.Fatalf("Zag(Zig(%d)): %d", x, got)
		}
		if got := wantZig(fix.Zag(uint64(x))); !got.IsUint64() || got.Uint64() != uint64(x) {
			t.Fatalf("Zig of Zag(%d): %s", uint64(x), got)
		}
	}
}

func TestLcg(t *testing.T) {
	for _, c := range []struct{ s, want uint32 }{
		{0, 1013904223}, {1, 1015568748}, {math.MaxUint32, 1012239698}, {1 << 31, 3161387871},
	} {
		if got := fix.Lcg(c.s); got != c.want {
			t.Errorf("Lcg(%d): %d, not %d", c.s, got, c.want)
		}
	}
	for _, v := range numbers() {
		s := uint32(v)
		want := new(big.Int).Mul(big.NewInt(1664525), big.NewInt(int64(s)))
		want.Add(want, big.NewInt(1013904223)).Mod(want, two(32))
		if got := fix.Lcg(s); !same(int64(got), want) {
			t.Fatalf("Lcg(%d): %d, not %s", s, got, want)
		}
	}
}
