package pow_test

import (
	"math"
	"math/big"
	"testing"

	"spinet/pow"
)

// What is asked of each function is worked out here by the chapter's words,
// gains with math/big, and held against literal rows too.

func held(x, least, most int) int { return max(least, min(x, most)) }

// wantGain is T[e modulo 16] times 2^(e / 16), divided by 32768, cut.
func wantGain(e int) int64 {
	table := []int64{
		32768, 34219, 35734, 37316, 38968, 40693, 42495, 44376, 46341, 48393, 50535, 52773, 55109, 57549, 60097, 62757,
	}
	e = held(e, 0, 320)
	power := new(big.Int).Exp(big.NewInt(2), big.NewInt(int64(e/16)), nil)
	product := power.Mul(power, big.NewInt(table[e%16]))
	return product.Div(product, big.NewInt(32768)).Int64()
}

// wantLog goes through all loudnesses and keeps the greatest that fits.
func wantLog(v int64) int {
	greatest := 0
	for e := 0; e <= 320; e++ {
		if wantGain(e) <= v {
			greatest = e
		}
	}
	return greatest
}

// wantFine divides; what is divided is above 0, so that Go's quotient is cut.
func wantFine(q, f int) int {
	parts := []int{1, 2, 4, 8}[held(f, 0, 3)]
	return (2*held(q, 0, parts-1)+1)*4/parts - 4
}

func wantLoud(coarse, q, f int) int {
	return held(held(coarse, 0, 31)*8+wantFine(q, f), 0, 320)
}

// ints are the numbers from -40 to 400, those about each power of two, of
// either sign, and both ends.
func ints() []int {
	l := []int{math.MinInt, math.MinInt + 1, math.MaxInt - 1, math.MaxInt}
	for x := -40; x <= 400; x++ {
		l = append(l, x)
	}
	for n := range 63 {
		p := 1 << n
		l = append(l, p-1, p, p+1, -p-1, -p, -p+1)
	}
	return l
}

func TestExamples(t *testing.T) {
	if got := pow.Exp(24); got != 2 {
		t.Error("Exp(24):", got)
	}
	if got := pow.Log(3); got != 31 {
		t.Error("Log(3):", got)
	}
	if got := pow.Fine(0, 0); got != 0 {
		t.Error("Fine(0, 0):", got)
	}
	if got := pow.Fine(1, 1); got != 2 {
		t.Error("Fine(1, 1):", got)
	}
}

func TestExpRows(t *testing.T) {
	for _, c := range []struct {
		e    int
		want int64
	}{
		{0, 1}, {1, 1}, {15, 1}, {16, 2}, {25, 2}, {26, 3}, {31, 3}, {32, 4}, {47, 7}, {48, 8}, {160, 1024}, {319, 1004112},
		// From 240 on nothing of the table is cut away.
		{240, 32768}, {241, 34219}, {242, 35734}, {243, 37316}, {244, 38968}, {245, 40693}, {246, 42495}, {247, 44376},
		{248, 46341}, {249, 48393}, {250, 50535}, {251, 52773}, {252, 55109}, {253, 57549}, {254, 60097}, {255, 62757}, {256, 65536}, {257, 68438},
		// A loudness outside its bounds.
		{320, 1 << 20}, {321, 1 << 20}, {336, 1 << 20}, {1 << 40, 1 << 20}, {math.MaxInt, 1 << 20},
		{-1, 1}, {-16, 1}, {-1 << 40, 1}, {math.MinInt, 1},
	} {
		if got := pow.Exp(c.e); got != c.want {
			t.Errorf("Exp(%d): %d, not %d", c.e, got, c.want)
		}
	}
}

func TestExpByDefinition(t *testing.T) {
	for _, e := range ints() {
		if got, want := pow.Exp(e), wantGain(e); got != want {
			t.Errorf("Exp(%d): %d, not %d", e, got, want)
		}
	}
}

func TestLogRows(t *testing.T) {
	for _, c := range []struct {
		v    int64
		want int
	}{
		// Several loudnesses have one gain: the greatest of them is told.
		{1, 15}, {2, 25}, {3, 31}, {4, 37}, {7, 47}, {8, 50},
		{32767, 239}, {32768, 240}, {32769, 240}, {34218, 240}, {34219, 241}, {62757, 255}, {65535, 255}, {65536, 256},
		// Nothing has a gain below 1.
		{0, 0}, {-1, 0}, {-1 << 40, 0}, {math.MinInt64, 0},
		{1004111, 318}, {1004112, 319}, {1<<20 - 1, 319}, {1 << 20, 320}, {1<<20 + 1, 320}, {1 << 21, 320}, {1 << 40, 320}, {math.MaxInt64, 320},
	} {
		if got := pow.Log(c.v); got != c.want {
			t.Errorf("Log(%d): %d, not %d", c.v, got, c.want)
		}
	}
}

func TestLogByDefinition(t *testing.T) {
	gains := []int64{0}
	for e := 0; e <= 320; e++ {
		v := wantGain(e)
		gains = append(gains, v-1, v, v+1)
	}
	for _, x := range ints() {
		gains = append(gains, int64(x))
	}
	for _, v := range gains {
		if got, want := pow.Log(v), wantLog(v); got != want {
			t.Errorf("Log(%d): %d, not %d", v, got, want)
		}
	}
}

func TestFineRows(t *testing.T) {
	for f, row := range [][]int{
		{0},
		{-2, 2},
		{-3, -1, 1, 3},
		{-4, -3, -2, -1, 0, 1, 2, 3},
	} {
		for q, want := range row {
			if got := pow.Fine(q, f); got != want {
				t.Errorf("Fine(%d, %d): %d, not %d", q, f, got, want)
			}
		}
	}
	for _, c := range []struct{ q, f, want int }{
		// A q outside its bounds, which hang on f.
		{-1, 0, 0}, {1, 0, 0}, {-1, 1, -2}, {2, 1, 2}, {-1, 2, -3}, {4, 2, 3}, {-1, 3, -4}, {8, 3, 3},
		{math.MaxInt, 0, 0}, {math.MaxInt, 1, 2}, {math.MaxInt, 2, 3}, {math.MaxInt, 3, 3},
		{math.MinInt, 0, 0}, {math.MinInt, 1, -2}, {math.MinInt, 2, -3}, {math.MinInt, 3, -4},
		// An f outside its bounds is held first, and q by what it became.
		{1, -1, 0}, {7, -1, 0}, {7, math.MinInt, 0}, {math.MaxInt, math.MinInt, 0},
		{0, 4, -4}, {7, 4, 3}, {15, 4, 3}, {4, 64, 0}, {4, math.MaxInt, 0}, {math.MaxInt, math.MaxInt, 3}, {math.MinInt, math.MaxInt, -4},
	} {
		if got := pow.Fine(c.q, c.f); got != c.want {
			t.Errorf("Fine(%d, %d): %d, not %d", c.q, c.f, got, c.want)
		}
	}
}

func TestFineByDefinition(t *testing.T) {
	for _, q := range ints() {
		for _, f := range ints() {
			if got, want := pow.Fine(q, f), wantFine(q, f); got != want {
				t.Fatalf("Fine(%d, %d): %d, not %d", q, f, got, want)
			}
		}
	}
}

func TestLoudRows(t *testing.T) {
	for _, c := range []struct{ coarse, q, f, want int }{
		{0, 0, 0, 0}, {1, 0, 0, 8}, {3, 1, 1, 26}, {3, 0, 1, 22}, {16, 2, 3, 126}, {31, 0, 0, 248},
		// A sum below 0, and the least and the greatest that aren't.
		{0, 0, 1, 0}, {0, 0, 2, 0}, {0, 1, 2, 0}, {0, 0, 3, 0}, {0, 3, 3, 0}, {0, 4, 3, 0}, {0, 5, 3, 1}, {1, 0, 3, 4}, {31, 7, 3, 251},
		// A coarse number outside its bounds is held ahead of the sum.
		{-1, 1, 1, 2}, {-1, 0, 1, 0}, {math.MinInt, 7, 3, 3}, {32, 0, 3, 244}, {32, 7, 3, 251}, {40, 0, 0, 248}, {math.MaxInt, 1, 1, 250},
		// So are q and f.
		{2, 99, 99, 19}, {2, -99, 99, 12}, {2, 99, -99, 16}, {math.MaxInt, math.MaxInt, math.MaxInt, 251}, {math.MinInt, math.MinInt, math.MinInt, 0},
	} {
		if got := pow.Loud(c.coarse, c.q, c.f); got != c.want {
			t.Errorf("Loud(%d, %d, %d): %d, not %d", c.coarse, c.q, c.f, got, c.want)
		}
	}
}

func TestLoudByDefinition(t *testing.T) {
	near := []int{math.MinInt, -1 << 32, -9, -2, -1, 0, 1, 2, 3, 4, 5, 6, 7, 8, 9, 1 << 32, math.MaxInt}
	for _, coarse := range ints() {
		for _, q := range near {
			for _, f := range near {
				if got, want := pow.Loud(coarse, q, f), wantLoud(coarse, q, f); got != want {
					t.Fatalf("Loud(%d, %d, %d): %d, not %d", coarse, q, f, got, want)
				}
			}
		}
	}
}
