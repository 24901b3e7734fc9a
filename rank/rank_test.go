package rank_test

import (
	"math"
	"slices"
	"testing"

	"spinet/api"
	"spinet/count"
	"spinet/rank"
)

const (
	numbers = 16
	pulses  = 32
)

// outsideN are numbers of numbers that no vector has, outsideK those of pulses.
var (
	outsideN = []int{
		math.MinInt, math.MinInt + 1, -1 << 32, -1<<32 + 2, -17, -16, -2, -1,
		17, 18, 32, 33, 256, 1 << 31, 1 << 32, 1<<32 + 2, math.MaxInt - 1, math.MaxInt,
	}
	outsideK = []int{
		math.MinInt, math.MinInt + 1, -1 << 32, -1<<32 + 2, -33, -32, -2, -1,
		33, 34, 64, 256, 1 << 31, 1 << 32, 1<<32 + 2, math.MaxInt - 1, math.MaxInt,
	}
)

// inOrder are numbers of all magnitudes, in the order in which they go.
var inOrder = []int{
	0, 1, -1, 2, -2, 3, -3, 4, -4, 31, -31, 32, -32, 33, -33, 999, -999, 1000, -1000, 1001, -1001,
	1<<31 - 1, -1<<31 + 1, 1 << 31, -1 << 31, 1 << 32, -1 << 32, 1<<32 + 1, -1<<32 - 1,
	math.MaxInt - 1, -math.MaxInt + 1, math.MaxInt, -math.MaxInt, math.MinInt,
}

// all is every vector of n numbers and k pulses, in order: the first numbers
// are told one by one, as the chapter writes them, and all rests behind each.
func all(n, k int) [][]int {
	if n == 0 && k == 0 {
		return [][]int{{}}
	}
	if n == 0 {
		return nil
	}
	var l [][]int
	for m := range k + 1 {
		for _, rest := range all(n-1, k-m) {
			l = append(l, append([]int{m}, rest...))
		}
		if m == 0 {
			continue
		}
		for _, rest := range all(n-1, k-m) {
			l = append(l, append([]int{-m}, rest...))
		}
	}
	return l
}

// small are the numbers of numbers and of pulses whose vectors are few.
func small() []count.Pair {
	var l []count.Pair
	for n, most := range []int{32, 32, 32, 16, 9, 6, 5, 4, 4} {
		for k := range most + 1 {
			l = append(l, count.Pair{N: n, K: k})
		}
	}
	for n := 9; n <= numbers; n++ {
		l = append(l, count.Pair{N: n, K: 0}, count.Pair{N: n, K: 1}, count.Pair{N: n, K: 2})
	}
	return l
}

// lone is a vector of n numbers that are 0, but for one.
func lone(n, at, number int) []int {
	x := make([]int, n)
	x[at] = number
	return x
}

func mustUnrank(t *testing.T, b *count.Book, n, k int, i uint64, want []int) {
	t.Helper()
	x, e := rank.Unrank(b, n, k, i)
	if e != api.OK || !slices.Equal(x, want) {
		t.Fatalf("Unrank(%d, %d, %d): %v, %d, not %v", n, k, i, x, e, want)
	}
}

func mustRank(t *testing.T, b *count.Book, x []int, want uint64) {
	t.Helper()
	was := slices.Clone(x)
	i, e := rank.Rank(b, x...)
	if e != api.OK || i != want {
		t.Fatalf("Rank(%v): %d, %d, not %d", x, i, e, want)
	}
	if !slices.Equal(x, was) {
		t.Fatalf("Rank(%v) wrote %v", was, x)
	}
}

func mustRefuseUnrank(t *testing.T, b *count.Book, n, k int, i uint64) {
	t.Helper()
	if x, e := rank.Unrank(b, n, k, i); e != api.ErrRange || len(x) != 0 {
		t.Fatalf("Unrank(%d, %d, %d): %v, %d, not refused", n, k, i, x, e)
	}
}

func mustRefuseRank(t *testing.T, b *count.Book, x ...int) {
	t.Helper()
	was := slices.Clone(x)
	if i, e := rank.Rank(b, x...); e != api.ErrRange || i != 0 {
		t.Fatalf("Rank(%v): %d, %d, not refused", x, i, e)
	}
	if !slices.Equal(x, was) {
		t.Fatalf("Rank(%v) wrote %v", was, x)
	}
}

// noted is which V a book has noted.
func noted(b *count.Book) (s [numbers + 2][pulses + 2]bool) {
	for n := range s {
		for k := range s[n] {
			s[n][k] = b.Has(count.Pair{N: n, K: k})
		}
	}
	return s
}

func TestExamples(t *testing.T) {
	b := count.New()
	mustUnrank(t, b, 2, 2, 0, []int{0, 2})
	mustUnrank(t, b, 2, 2, 7, []int{-2, 0})
	mustRank(t, b, []int{0, 2}, 0)
	mustRank(t, b, []int{-2, 0}, 7)
	mustRefuseUnrank(t, b, 2, 2, 8)
}

// Literals, each of a new book.
func TestRows(t *testing.T) {
	for _, c := range []struct {
		x []int
		k int
		i uint64
	}{
		{[]int{}, 0, 0}, {[]int{0}, 0, 0}, {[]int{1}, 1, 0}, {[]int{-1}, 1, 1},
		{[]int{31}, 31, 0}, {[]int{-31}, 31, 1}, {[]int{32}, 32, 0}, {[]int{-32}, 32, 1},
		{[]int{0, -2}, 2, 1}, {[]int{1, 1}, 2, 2}, {[]int{1, -1}, 2, 3}, {[]int{-1, 1}, 2, 4},
		{[]int{-1, -1}, 2, 5}, {[]int{2, 0}, 2, 6}, {[]int{0, 3}, 3, 0}, {[]int{1, 2}, 3, 2}, {[]int{-3, 0}, 3, 11},
		// Behind V(2, 2) that begin with 0: 8; behind V(2, 1) with 1: 12, and with -1: 16.
		{[]int{0, -2, 0}, 2, 7}, {[]int{1, 0, 1}, 2, 8}, {[]int{-1, 0, 1}, 2, 12}, {[]int{2, 0, 0}, 2, 16}, {[]int{-2, 0, 0}, 2, 17},
		// V(15, 32) begin with 0, V(15, 31) with 1.
		{lone(16, 15, 32), 32, 0}, {lone(16, 15, -32), 32, 1},
		{append([]int{1}, lone(15, 14, 31)...), 32, 549758831116290},
		{append([]int{-1}, lone(15, 14, 31)...), 32, 549758831116290 + 357279785395230},
		{lone(16, 0, 32), 32, 2460955893981182}, {lone(16, 0, -32), 32, 2460955893981183},
		{lone(16, 1, -32), 32, 549758831116289}, {lone(16, 0, -31), 31, 1553917277469663},
		{lone(15, 0, -32), 32, 549758831116289}, {lone(15, 0, 31), 31, 357279785395228},
		{lone(16, 0, 1), 1, 30}, {lone(16, 0, -1), 1, 31}, {lone(16, 8, 1), 1, 14}, {make([]int, 16), 0, 0},
	} {
		mustRank(t, count.New(), c.x, c.i)
		mustUnrank(t, count.New(), len(c.x), c.k, c.i, c.x)
	}
}

// Every vector of small n and k, in order, both ways, and none behind the last.
func TestOneByOne(t *testing.T) {
	b := count.New()
	for _, p := range small() {
		l := all(p.N, p.K)
		for i, x := range l {
			mustUnrank(t, b, p.N, p.K, uint64(i), x)
			mustRank(t, b, x, uint64(i))
			if got := rank.Pulses(x...); got != p.K {
				t.Fatalf("Pulses(%v): %d, not %d", x, got, p.K)
			}
			if i > 0 && (!rank.Before(l[i-1], x) || rank.Before(x, l[i-1])) {
				t.Fatalf("%v isn't before %v", l[i-1], x)
			}
		}
		mustRefuseUnrank(t, b, p.N, p.K, uint64(len(l)))
		mustRefuseUnrank(t, b, p.N, p.K, uint64(len(l))+1)
		mustRefuseUnrank(t, b, p.N, p.K, math.MaxUint64)
	}
}

// somewhere are ranks below v: the ends, the halves, and some that jump about.
func somewhere(v uint64) []uint64 {
	l := []uint64{0, v - 1, v / 2, (v - 1) / 2, v / 3, v - v/3 - 1}
	for part := uint64(1); part < v; part *= 7 {
		l = append(l, part, v-part, v/part*(part/2))
	}
	for i := range uint64(8) {
		l = append(l, i*0x9e3779b97f4a7c15%v)
	}
	return l
}

// Of every n and k: ranks lead to vectors and back, greater ones to vectors
// that go behind, and there is none behind the last one.
func TestThereAndBack(t *testing.T) {
	b, counts := count.New(), count.New()
	for n := range numbers + 1 {
		for k := range pulses + 1 {
			v := counts.V(n, k)
			for _, i := range []uint64{v, v + 1, 2*v + 1, 1 << 40, 1 << 63, math.MaxUint64 - 1, math.MaxUint64} {
				mustRefuseUnrank(t, b, n, k, max(i, v))
			}
			if v == 0 {
				mustRefuseUnrank(t, b, n, k, 0)
				continue
			}
			var last []int
			for at, i := range slices.Compact(slices.Sorted(slices.Values(somewhere(v)))) {
				x, e := rank.Unrank(b, n, k, i)
				if e != api.OK || len(x) != n || rank.Pulses(x...) != k {
					t.Fatalf("Unrank(%d, %d, %d): %v, %d", n, k, i, x, e)
				}
				mustRank(t, b, x, i)
				if at > 0 && (!rank.Before(last, x) || rank.Before(x, last)) {
					t.Fatalf("%v isn't before %v", last, x)
				}
				last = x
			}
			if n > 0 {
				mustUnrank(t, b, n, k, 0, lone(n, n-1, k))
				mustUnrank(t, b, n, k, v-1, lone(n, 0, -k))
			}
		}
	}
}

// Vectors that lie side by side, up and down from many places.
func TestSideBySide(t *testing.T) {
	b := count.New()
	for _, p := range []count.Pair{{N: 4, K: 32}, {N: 8, K: 13}, {N: 15, K: 32}, {N: 16, K: 3}, {N: 16, K: 31}, {N: 16, K: 32}} {
		v := b.V(p.N, p.K)
		for _, from := range somewhere(v) {
			var last []int
			for i := from; i < min(from+40, v); i++ {
				x, e := rank.Unrank(b, p.N, p.K, i)
				if e != api.OK {
					t.Fatal(p, i, e)
				}
				mustRank(t, b, x, i)
				if last != nil && (!rank.Before(last, x) || rank.Before(x, last)) {
					t.Fatalf("%v isn't before %v", last, x)
				}
				last = x
			}
		}
	}
}

func TestUnrankOutside(t *testing.T) {
	full := count.New()
	full.V(numbers, pulses)
	for _, b := range []*count.Book{count.New(), full} {
		was := noted(b)
		for _, i := range []uint64{0, 1, 7, 1 << 40, math.MaxUint64} {
			for _, n := range outsideN {
				for k := range pulses + 1 {
					mustRefuseUnrank(t, b, n, k, i)
				}
				for _, k := range outsideK {
					mustRefuseUnrank(t, b, n, k, i)
				}
			}
			for n := range numbers + 1 {
				for _, k := range outsideK {
					mustRefuseUnrank(t, b, n, k, i)
				}
			}
		}
		if noted(b) != was {
			t.Error("something was noted")
		}
	}
}

func TestNoNumbersOrPulses(t *testing.T) {
	b := count.New()
	if i, e := rank.Rank(b); i != 0 || e != api.OK {
		t.Error(i, e)
	}
	mustRank(t, b, nil, 0)
	mustRank(t, b, []int{}, 0)
	mustUnrank(t, b, 0, 0, 0, nil)
	mustRefuseUnrank(t, b, 0, 0, 1)
	for k := 1; k <= pulses; k++ {
		mustRefuseUnrank(t, b, 0, k, 0)
	}
	for n := range numbers + 1 {
		mustUnrank(t, b, n, 0, 0, make([]int, n))
		mustRank(t, b, make([]int, n), 0)
		mustRefuseUnrank(t, b, n, 0, 1)
	}
}

// The edges of what has a rank: 16 numbers and 32 pulses have one, no more do.
func TestRankOutside(t *testing.T) {
	b := count.New()
	for _, n := range []int{1, 2, 15, 16} {
		for at := range n {
			for _, number := range []int{31, -31, 32, -32} {
				if _, e := rank.Rank(b, lone(n, at, number)...); e != api.OK {
					t.Fatal(n, at, number, e)
				}
			}
		}
	}
	b = count.New()
	for _, n := range []int{1, 2, 15, 16} {
		for at := range n {
			for _, number := range []int{
				33, -33, 34, 64, 256, 999, 1000, 1001, -1000, -1001, 1 << 32, -1 << 32, 1<<32 + 1, -1<<32 + 1,
				math.MinInt, math.MinInt + 1, math.MaxInt,
			} {
				mustRefuseRank(t, b, lone(n, at, number)...)
			}
		}
	}
	for _, n := range []int{17, 18, 32, 33, 256, 1000, 1001, 1 << 16} {
		mustRefuseRank(t, b, make([]int, n)...)
		mustRefuseRank(t, b, lone(n, 0, 1)...)
		mustRefuseRank(t, b, lone(n, n-1, 33)...)
	}
	for _, x := range [][]int{
		{20, -13}, {-16, -17}, {32, 1}, {1, -32}, {math.MinInt, math.MinInt}, {math.MinInt, math.MaxInt},
		slices.Repeat([]int{3}, 11), slices.Repeat([]int{-2, 2, -2, 3}, 4), slices.Repeat([]int{math.MinInt}, 16),
	} {
		mustRefuseRank(t, b, x...)
	}
	if noted(b) != noted(count.New()) {
		t.Error("something was noted")
	}
	for _, x := range [][]int{{20, -12}, {-16, -16}, {31, 1}, {1, -31}, slices.Repeat([]int{-2, 2}, 8)} {
		if _, e := rank.Rank(b, x...); e != api.OK {
			t.Error(x, e)
		}
	}
}

// A call that is refused changes nothing: not even what a book has noted.
func TestRefusedNotesNothing(t *testing.T) {
	for _, ahead := range []count.Pair{{}, {N: 1, K: 1}, {N: 2, K: 3}, {N: 5, K: 2}, {N: 16, K: 1}, {N: 1, K: 32}, {N: 16, K: 32}} {
		for _, p := range small() {
			b := count.New()
			b.V(ahead.N, ahead.K)
			was := noted(b)
			mustRefuseUnrank(t, b, p.N, p.K, count.New().V(p.N, p.K))
			mustRefuseUnrank(t, b, p.N, p.K, math.MaxUint64)
			if noted(b) != was {
				t.Fatal(ahead, p)
			}
		}
	}
}

// What a book has noted ahead counts for nothing in an answer, nor does
// whether it came of New.
func TestAnyBook(t *testing.T) {
	full := count.New()
	full.V(numbers, pulses)
	for _, p := range []count.Pair{{N: 1, K: 1}, {N: 2, K: 2}, {N: 3, K: 5}, {N: 8, K: 4}, {N: 16, K: 32}} {
		v := full.V(p.N, p.K)
		for _, i := range somewhere(v) {
			want, e := rank.Unrank(full, p.N, p.K, i)
			if e != api.OK {
				t.Fatal(p, i, e)
			}
			mustUnrank(t, count.New(), p.N, p.K, i, want)
			mustUnrank(t, &count.Book{}, p.N, p.K, i, want)
			mustRank(t, full, want, i)
			mustRank(t, count.New(), want, i)
			mustRank(t, &count.Book{}, want, i)
		}
	}
}

// What is noted is V all the same, whatever was ranked.
func TestBookStaysRight(t *testing.T) {
	b := count.New()
	mustRank(t, b, []int{-2, 0, 1, -3}, 419)
	mustUnrank(t, b, 7, 2, 97, lone(7, 0, -2))
	for n := range numbers + 1 {
		for k := range pulses + 1 {
			if got, want := b.V(n, k), count.New().V(n, k); got != want {
				t.Errorf("V(%d, %d): %d, not %d", n, k, got, want)
			}
		}
	}
}

func TestVectorIsNewMemory(t *testing.T) {
	b := count.New()
	want := []int{-1, 2, 0, -3}
	i, e := rank.Rank(b, want...)
	if e != api.OK {
		t.Fatal(e)
	}
	x, _ := rank.Unrank(b, 4, 6, i)
	other, _ := rank.Unrank(b, 4, 6, i)
	for at := range x {
		x[at] = 99
	}
	_ = append(x[:1], 7, 7, 7)
	if !slices.Equal(other, want) {
		t.Error(other)
	}
	mustUnrank(t, b, 4, 6, i, want)
	mustRank(t, b, want, i)
}

func TestPulses(t *testing.T) {
	for _, c := range []struct {
		x    []int
		want int
	}{
		{nil, 0}, {[]int{}, 0}, {[]int{0}, 0}, {[]int{0, 0, 0}, 0}, {[]int{1}, 1}, {[]int{-1}, 1},
		{[]int{3, -4, 0}, 7}, {[]int{-3, -4}, 7}, {[]int{5, -5}, 10}, {[]int{16, -16}, 32}, {[]int{20, -13}, 33},
		{[]int{999}, 999}, {[]int{-999}, 999}, {[]int{1000}, 1000}, {[]int{-1000}, 1000}, {[]int{1001}, 1000}, {[]int{-1001}, 1000},
		{[]int{1 << 31}, 1000}, {[]int{1 << 32}, 1000}, {[]int{-1 << 32}, 1000}, {[]int{1<<32 + 1}, 1000},
		{[]int{math.MaxInt}, 1000}, {[]int{math.MinInt}, 1000}, {[]int{math.MinInt + 1}, 1000}, {[]int{math.MinInt, math.MaxInt}, 2000},
		{[]int{1001, 1, -1001, -1}, 2002}, {[]int{math.MinInt, 3, math.MinInt}, 2003},
		{slices.Repeat([]int{1}, 17), 17}, {slices.Repeat([]int{-1}, 999), 999}, {slices.Repeat([]int{1}, 1000), 1000},
		{slices.Repeat([]int{1}, 1001), 1000}, {slices.Repeat([]int{-1}, 5000), 1000},
		{slices.Repeat([]int{math.MinInt}, 999), 999000}, {slices.Repeat([]int{math.MaxInt}, 1000), 1000000}, {slices.Repeat([]int{math.MinInt}, 1001), 1000000},
		{lone(1000, 999, -7), 7}, {lone(1001, 999, 7), 7}, {lone(1001, 1000, 7), 0}, {lone(2000, 0, 7), 7},
	} {
		was := slices.Clone(c.x)
		if got := rank.Pulses(c.x...); got != c.want {
			t.Errorf("Pulses(%v): %d, not %d", c.x, got, c.want)
		}
		if !slices.Equal(c.x, was) {
			t.Errorf("Pulses(%v) wrote %v", was, c.x)
		}
	}
	if got := rank.Pulses(); got != 0 {
		t.Error(got)
	}
}

// Every two vectors of small n and k: one is before another one just if its
// rank is less.
func TestBeforeByRank(t *testing.T) {
	for _, p := range []count.Pair{
		{N: 0, K: 0}, {N: 1, K: 0}, {N: 1, K: 1}, {N: 1, K: 32}, {N: 2, K: 1}, {N: 2, K: 2}, {N: 2, K: 9},
		{N: 3, K: 0}, {N: 3, K: 4}, {N: 4, K: 3}, {N: 5, K: 3}, {N: 16, K: 1},
	} {
		l := all(p.N, p.K)
		for i, x := range l {
			for j, y := range l {
				if got := rank.Before(x, y); got != (i < j) {
					t.Errorf("Before(%v, %v): %t", x, y, got)
				}
			}
		}
	}
}

// Every two numbers of all magnitudes, alone, behind others that are the same,
// and ahead of others that would tell the contrary.
func TestBeforeNumbers(t *testing.T) {
	long := slices.Repeat([]int{math.MinInt, 5, -5, 0}, 500)
	for i, x := range inOrder {
		for j, y := range inOrder {
			want := i < j
			for _, c := range [][2][]int{
				{{x}, {y}}, {{0, x}, {0, y}}, {{-7, math.MinInt, x}, {-7, math.MinInt, y}},
				{append(slices.Clone(long), x), append(slices.Clone(long), y)},
			} {
				if got := rank.Before(c[0], c[1]); got != want {
					t.Errorf("Before(%d, %d) as last ones of %d: %t", x, y, len(c[0]), got)
				}
			}
			if got := rank.Before([]int{x, -9}, []int{y, 0}); i != j && got != want {
				t.Errorf("Before(%d, %d) as first ones: %t", x, y, got)
			}
			if got := rank.Before([]int{x, 0}, []int{y, -9}); i != j && got != want {
				t.Errorf("Before(%d, %d) as first ones: %t", x, y, got)
			}
		}
	}
}

func TestBeforeOfOneOrOfUnlikeLengths(t *testing.T) {
	same := []int{3, -4, 0}
	if rank.Before(nil, nil) || rank.Before(nil, []int{}) || rank.Before([]int{}, nil) || rank.Before(same, same) || rank.Before(same, slices.Clone(same)) {
		t.Error("the same ones")
	}
	for _, c := range [][2][]int{
		{nil, {0}}, {nil, {1}}, {{}, {-1}}, {{0}, {1, 1}}, {{0}, {-1, 0}}, {{1}, {1, 0}}, {{1}, {1, 5}},
		{{0, 0}, {math.MinInt, 0, 0}}, {make([]int, 16), make([]int, 17)}, {lone(16, 0, 1), lone(17, 0, -1)},
		{make([]int, 1000), slices.Repeat([]int{1}, 1001)},
	} {
		if rank.Before(c[0], c[1]) || rank.Before(c[1], c[0]) {
			t.Error(c)
		}
	}
}

func TestBeforeWritesNothing(t *testing.T) {
	x, y := []int{2, -1, 0, 3}, []int{2, -1, 1, -2}
	wasX, wasY := slices.Clone(x), slices.Clone(y)
	if !rank.Before(x, y) || rank.Before(y, x) {
		t.Error("Before")
	}
	if !slices.Equal(x, wasX) || !slices.Equal(y, wasY) {
		t.Error(x, y)
	}
}
