package count_test

import (
	"math"
	"slices"
	"testing"

	"spinet/count"
)

const (
	numbers = 16
	pulses  = 32
)

// outsideN are numbers of numbers that no vector has.
var outsideN = []int{
	math.MinInt, math.MinInt + 1, -1 << 32, -1<<32 + 1, -256, -17, -16, -2, -1,
	17, 18, 32, 33, 256, 1 << 31, 1 << 32, 1<<32 + 1, 1<<32 + 16, math.MaxInt - 1, math.MaxInt,
}

// outsideK are numbers of pulses that no vector has.
var outsideK = []int{
	math.MinInt, math.MinInt + 1, -1 << 32, -1<<32 + 1, -256, -33, -32, -2, -1,
	33, 34, 64, 256, 1 << 31, 1 << 32, 1<<32 + 1, 1<<32 + 32, math.MaxInt - 1, math.MaxInt,
}

// insideN are the edges of the numbers of numbers that there are, and some
// between them; insideK those of the pulses.
var (
	insideN = []int{0, 1, 2, 3, 8, 15, 16}
	insideK = []int{0, 1, 2, 3, 9, 31, 32}
)

// vs are some V as literals.
var vs = []struct {
	n, k int
	v    uint64
}{
	{0, 0, 1}, {0, 1, 0}, {0, 2, 0}, {0, 31, 0}, {0, 32, 0},
	{1, 0, 1}, {2, 0, 1}, {15, 0, 1}, {16, 0, 1},
	{1, 1, 2}, {1, 2, 2}, {1, 31, 2}, {1, 32, 2},
	{2, 1, 4}, {2, 2, 8}, {2, 3, 12}, {2, 31, 124}, {2, 32, 128},
	{3, 1, 6}, {3, 2, 18}, {3, 3, 38}, {3, 4, 66}, {3, 31, 3846}, {3, 32, 4098},
	{4, 1, 8}, {4, 2, 32}, {4, 3, 88}, {4, 4, 192}, {4, 32, 87552},
	{8, 5, 9424}, {8, 8, 157184},
	{15, 1, 30}, {15, 2, 450}, {16, 1, 32}, {16, 2, 512}, {16, 3, 5472},
	{15, 31, 357279785395230}, {15, 32, 549758831116290}, {16, 31, 1553917277469664}, {16, 32, 2460955893981184},
}

// choose is in how many ways k of n can be chosen.
func choose(n, k int) uint64 {
	if k > n {
		return 0
	}
	ways := uint64(1)
	for i := range k {
		ways = ways * uint64(n-i) / uint64(i+1)
	}
	return ways
}

// formula is V by another way than the chapter's: i of the numbers aren't 0,
// each of them has a sign, and k pulses go to them, to each at least one.
func formula(n, k int) uint64 {
	if k == 0 {
		return 1
	}
	v := uint64(0)
	for i := 1; i <= min(n, k); i++ {
		v += choose(n, i) << i * choose(k-1, i-1)
	}
	return v
}

// countOneByOne goes through all lists of n numbers whose magnitudes are at
// most k, and counts those in which they add up to k.
func countOneByOne(n, k int) uint64 {
	v := uint64(0)
	x := make([]int, n)
	var fill func(at int)
	fill = func(at int) {
		if at < n {
			for x[at] = -k; x[at] <= k; x[at]++ {
				fill(at + 1)
			}
			return
		}
		sum := 0
		for _, number := range x {
			sum += max(number, -number)
		}
		if sum == k {
			v++
		}
	}
	fill(0)
	return v
}

// notes are the pairs that must be noted in a book.
type notes map[count.Pair]struct{}

// add is what V(n, k) has to note.
func (s notes) add(n, k int) {
	if n > numbers || k > pulses {
		return
	}
	for i := 1; i <= n; i++ {
		for j := 1; j <= k; j++ {
			s[count.Pair{N: i, K: j}] = struct{}{}
		}
	}
}

// check holds a book to these notes, pair by pair, beyond all edges too.
func (s notes) check(t *testing.T, b *count.Book, what ...any) {
	t.Helper()
	ask := func(n, k int) {
		t.Helper()
		p := count.Pair{N: n, K: k}
		_, want := s[p]
		if got := b.Has(p); got != want {
			t.Fatalf("%v: Has(%v): %t, not %t", what, p, got, want)
		}
	}
	for n := -2; n <= numbers+2; n++ {
		for k := -2; k <= pulses+2; k++ {
			ask(n, k)
		}
		for _, k := range outsideK {
			ask(n, k)
		}
	}
	for _, n := range outsideN {
		for k := -2; k <= pulses+2; k++ {
			ask(n, k)
		}
		for _, k := range outsideK {
			ask(n, k)
		}
	}
}

func TestExamples(t *testing.T) {
	if v := count.New().V(2, 3); v != 12 {
		t.Error(v)
	}
	if v := count.New().V(3, 2); v != 18 {
		t.Error(v)
	}
}

// Each of a new book, and all of one, forwards and backwards.
func TestVRows(t *testing.T) {
	one, other := count.New(), count.New()
	for i, c := range vs {
		if v := count.New().V(c.n, c.k); v != c.v {
			t.Errorf("V(%d, %d): %d, not %d", c.n, c.k, v, c.v)
		}
		if v := one.V(c.n, c.k); v != c.v {
			t.Errorf("V(%d, %d) behind others: %d, not %d", c.n, c.k, v, c.v)
		}
		c = vs[len(vs)-1-i]
		if v := other.V(c.n, c.k); v != c.v {
			t.Errorf("V(%d, %d) behind greater ones: %d, not %d", c.n, c.k, v, c.v)
		}
	}
}

func TestVOneByOne(t *testing.T) {
	b := count.New()
	for n, most := range []int{32, 32, 32, 16, 8, 5, 3} {
		for k := range most + 1 {
			if v, want := b.V(n, k), countOneByOne(n, k); v != want {
				t.Errorf("V(%d, %d): %d, not %d", n, k, v, want)
			}
		}
	}
}

func TestVByFormula(t *testing.T) {
	b := count.New()
	for n := range numbers + 1 {
		for k := range pulses + 1 {
			want := formula(n, k)
			if v := b.V(n, k); v != want {
				t.Errorf("V(%d, %d): %d, not %d", n, k, v, want)
			}
			if v := count.New().V(n, k); v != want {
				t.Errorf("V(%d, %d) of a new book: %d, not %d", n, k, v, want)
			}
		}
	}
}

func TestVIsTheSum(t *testing.T) {
	b := count.New()
	for n := 1; n <= numbers; n++ {
		for k := 1; k <= pulses; k++ {
			if v, sum := b.V(n, k), b.V(n-1, k)+b.V(n, k-1)+b.V(n-1, k-1); v != sum {
				t.Errorf("V(%d, %d): %d, not %d", n, k, v, sum)
			}
		}
	}
}

func TestVOutside(t *testing.T) {
	b := count.New()
	full := count.New()
	full.V(numbers, pulses)
	all := notes{}
	all.add(numbers, pulses)
	ask := func(n, k int) {
		if v := b.V(n, k); v != 0 {
			t.Errorf("V(%d, %d): %d, not 0", n, k, v)
		}
		if v := full.V(n, k); v != 0 {
			t.Errorf("V(%d, %d) of a full book: %d, not 0", n, k, v)
		}
	}
	for _, n := range outsideN {
		for k := range pulses + 1 {
			ask(n, k)
		}
		for _, k := range outsideK {
			ask(n, k)
		}
	}
	for n := range numbers + 1 {
		for _, k := range outsideK {
			ask(n, k)
		}
	}
	notes{}.check(t, b, "outside")
	all.check(t, full, "outside, full")
}

func TestNewNotesNothing(t *testing.T) {
	notes{}.check(t, count.New(), "New")
}

// What is noted behind a single question, at every edge and between.
func TestNotedBehindOne(t *testing.T) {
	for n := range numbers + 1 {
		for k := range pulses + 1 {
			b := count.New()
			b.V(n, k)
			s := notes{}
			s.add(n, k)
			s.check(t, b, "V", n, k)
		}
	}
}

func TestNothingIsNotedWithoutNumbersOrPulses(t *testing.T) {
	b := count.New()
	for k := range pulses + 1 {
		b.V(0, k)
	}
	for n := range numbers + 1 {
		b.V(n, 0)
	}
	notes{}.check(t, b, "noughts")
}

// Every two edges, one behind the other: what the first one noted stays, and
// of what neither asked nothing is there.
func TestNotedBehindTwo(t *testing.T) {
	ns := append(slices.Clone(insideN), -1, 17)
	ks := append(slices.Clone(insideK), -1, 33)
	for i := range len(ns) * len(ks) {
		for j := range len(ns) * len(ks) {
			n1, k1 := ns[i/len(ks)], ks[i%len(ks)]
			n2, k2 := ns[j/len(ks)], ks[j%len(ks)]
			b, s := count.New(), notes{}
			b.V(n1, k1)
			s.add(n1, k1)
			b.V(n2, k2)
			s.add(n2, k2)
			for n := range numbers + 1 {
				for k := range pulses + 1 {
					p := count.Pair{N: n, K: k}
					_, want := s[p]
					if got := b.Has(p); got != want {
						t.Fatalf("V(%d, %d), V(%d, %d): Has(%v): %t, not %t", n1, k1, n2, k2, p, got, want)
					}
				}
			}
		}
	}
}

// Questions in orders that jump about, the notes asked for behind each, and
// each answer the same as that of a new book.
func TestNotedInAnyOrder(t *testing.T) {
	for _, order := range [][]count.Pair{
		{{16, 1}, {1, 32}, {2, 3}, {3, 2}, {15, 4}, {4, 31}, {16, 32}},
		{{1, 1}, {2, 2}, {1, 1}, {2, 1}, {1, 2}, {3, 3}, {17, 3}, {3, 33}},
		{{5, 7}, {7, 5}, {-1, 9}, {9, -1}, {0, 0}, {0, 9}, {9, 0}, {6, 6}, {5, 8}, {8, 5}},
		{{16, 32}, {16, 31}, {15, 32}, {1, 1}},
		{{1, 32}, {2, 31}, {3, 30}, {4, 29}, {5, 28}, {6, 27}, {7, 26}, {8, 25}},
		{{16, 2}, {15, 3}, {14, 4}, {13, 5}, {12, 6}, {2, 16}, {3, 15}, {4, 14}},
	} {
		b, s := count.New(), notes{}
		for at, p := range order {
			want := uint64(0)
			if p.N >= 0 && p.N <= numbers && p.K >= 0 && p.K <= pulses {
				want = formula(p.N, p.K)
			}
			if v := b.V(p.N, p.K); v != want {
				t.Errorf("V(%d, %d): %d, not %d", p.N, p.K, v, want)
			}
			s.add(p.N, p.K)
			s.check(t, b, order[:at+1])
		}
	}
}

// What is noted isn't worked out again: to ask for it needs no memory, and is
// done in no time, for which a sum without notes would take years.
func TestWorkedOutOnce(t *testing.T) {
	b := count.New()
	first := b.V(numbers, pulses)
	if need := testing.AllocsPerRun(10, func() {
		for n := range numbers + 1 {
			for k := range pulses + 1 {
				b.V(n, k)
			}
		}
	}); need != 0 {
		t.Error(need)
	}
	if v := b.V(numbers, pulses); v != first {
		t.Error(v, first)
	}
}

func TestHasNotesNothing(t *testing.T) {
	b := count.New()
	notes{}.check(t, b, "once")
	notes{}.check(t, b, "twice")
	b.V(3, 4)
	s := notes{}
	s.add(3, 4)
	s.check(t, b, "once, behind V")
	s.check(t, b, "twice, behind V")
	for _, c := range vs {
		b.Has(count.Pair{N: c.n, K: c.k})
		if v := b.V(c.n, c.k); v != c.v {
			t.Errorf("V(%d, %d): %d, not %d", c.n, c.k, v, c.v)
		}
	}
}

func TestRowRows(t *testing.T) {
	for _, c := range []struct {
		n, most int
		want    []uint64
	}{
		{2, 3, []uint64{1, 4, 8, 12}}, {3, 3, []uint64{1, 6, 18, 38}}, {1, 4, []uint64{1, 2, 2, 2, 2}},
		{0, 0, []uint64{1}}, {0, 3, []uint64{1, 0, 0, 0}}, {0, -1, []uint64{1}},
		{1, 0, []uint64{1}}, {16, 0, []uint64{1}}, {16, 1, []uint64{1, 32}}, {15, 2, []uint64{1, 30, 450}},
		{16, -1, []uint64{1}}, {16, math.MinInt, []uint64{1}}, {5, -32, []uint64{1}}, {5, -1<<32 + 3, []uint64{1}},
	} {
		if got := count.New().Row(c.n, c.most); !slices.Equal(got, c.want) {
			t.Errorf("Row(%d, %d): %v, not %v", c.n, c.most, got, c.want)
		}
	}
}

// Rows of every n and most, of a new book and of one that was asked before.
func TestRowByFormula(t *testing.T) {
	used := count.New()
	mosts := slices.Clone(outsideK)
	for most := range pulses + 1 {
		mosts = append(mosts, most)
	}
	for n := range numbers + 1 {
		for _, most := range mosts {
			var want []uint64
			for k := range min(max(most, 0), pulses) + 1 {
				want = append(want, formula(n, k))
			}
			if got := count.New().Row(n, most); !slices.Equal(got, want) {
				t.Errorf("Row(%d, %d): %v, not %v", n, most, got, want)
			}
			if got := used.Row(n, most); !slices.Equal(got, want) {
				t.Errorf("Row(%d, %d) of a used book: %v, not %v", n, most, got, want)
			}
		}
	}
}

func TestRowOutside(t *testing.T) {
	b := count.New()
	for _, n := range outsideN {
		for _, most := range append(slices.Clone(outsideK), insideK...) {
			if row := b.Row(n, most); len(row) != 0 {
				t.Errorf("Row(%d, %d): %v", n, most, row)
			}
		}
	}
	notes{}.check(t, b, "rows outside")
}

// A row's V are noted as those that are asked one by one.
func TestRowNotesItsVs(t *testing.T) {
	for _, n := range insideN {
		for _, most := range append(slices.Clone(insideK), -1, 33, math.MinInt, math.MaxInt) {
			b := count.New()
			b.Row(n, most)
			s := notes{}
			s.add(n, min(max(most, 0), pulses))
			s.check(t, b, "Row", n, most)
		}
	}
}

func TestRowIsNewMemory(t *testing.T) {
	b := count.New()
	was := slices.Clone(b.Row(4, 6))
	row, other := b.Row(4, 6), b.Row(4, 6)
	for i := range row {
		row[i] = 999
	}
	_ = append(row[:1], 7, 7, 7)
	if !slices.Equal(other, was) {
		t.Error(other)
	}
	if again := b.Row(4, 6); !slices.Equal(again, was) {
		t.Error(again)
	}
	for n := range numbers + 1 {
		for k := range pulses + 1 {
			if v := b.V(n, k); v != formula(n, k) {
				t.Errorf("V(%d, %d): %d", n, k, v)
			}
		}
	}
}

func TestBooksAreApart(t *testing.T) {
	a, b := count.New(), count.New()
	a.V(16, 32)
	notes{}.check(t, b, "the other one is full")
	notes{}.check(t, count.New(), "a new one behind a full one")
	b.V(2, 3)
	s := notes{}
	s.add(2, 3)
	s.check(t, b, "V(2, 3)")
	b.Row(4, 1)
	s.add(4, 1)
	s.check(t, b, "V(2, 3), Row(4, 1)")
	all := notes{}
	all.add(16, 32)
	all.check(t, a, "the full one")
}

// A book that didn't come of New is one in which nothing is noted.
func TestZeroBook(t *testing.T) {
	var b, c count.Book
	notes{}.check(t, &b, "zero")
	if v := b.V(2, 3); v != 12 {
		t.Error(v)
	}
	s := notes{}
	s.add(2, 3)
	s.check(t, &b, "zero, V(2, 3)")
	if row := c.Row(2, 3); !slices.Equal(row, []uint64{1, 4, 8, 12}) {
		t.Error(row)
	}
}
