package table_test

import (
	"math"
	"slices"
	"testing"

	"spinet/api"
	"spinet/count"
	"spinet/rank"
	"spinet/table"
)

const (
	numbers = 16
	pulses  = 32
)

// outsideN are numbers of numbers that no vector has, outsideK those of pulses.
var (
	outsideN = []int{
		math.MinInt, math.MinInt + 1, -1 << 32, -1<<32 + 2, -17, -16, -2, -1,
		17, 18, 32, 33, 256, 1 << 31, 1 << 32, 1<<32 + 2, math.MaxInt - 1, math.MaxInt,
	}
	outsideK = []int{
		math.MinInt, math.MinInt + 1, -1 << 32, -1<<32 + 2, -33, -32, -2, -1,
		33, 34, 64, 256, 1 << 31, 1 << 32, 1<<32 + 2, math.MaxInt - 1, math.MaxInt,
	}
)

// all is every vector of n numbers and k pulses, in order: the first numbers
// are told one by one, as chapter 11 writes them, and all rests behind each.
func all(n, k int) [][]int {
	if n == 0 && k == 0 {
		return [][]int{{}}
	}
	if n == 0 {
		return nil
	}
	var l [][]int
	for m := range k + 1 {
		for _, rest := range all(n-1, k-m) {
			l = append(l, append([]int{m}, rest...))
		}
		if m == 0 {
			continue
		}
		for _, rest := range all(n-1, k-m) {
			l = append(l, append([]int{-m}, rest...))
		}
	}
	return l
}

// small are the numbers of numbers and of pulses whose vectors are few.
func small() []count.Pair {
	var l []count.Pair
	for n, most := range []int{32, 32, 32, 16, 9, 6, 5, 4, 4} {
		for k := range most + 1 {
			l = append(l, count.Pair{N: n, K: k})
		}
	}
	for n := 9; n <= numbers; n++ {
		l = append(l, count.Pair{N: n, K: 0}, count.Pair{N: n, K: 1}, count.Pair{N: n, K: 2})
	}
	return l
}

// somewhere are ranks below v: the ends, the halves, and some that jump about.
func somewhere(v uint64) []uint64 {
	l := []uint64{0, v - 1, v / 2, (v - 1) / 2, v / 3, v - v/3 - 1}
	for part := uint64(1); part < v; part *= 7 {
		l = append(l, part, v-part, v/part*(part/2))
	}
	for i := range uint64(8) {
		l = append(l, i*0x9e3779b97f4a7c15%v)
	}
	return l
}

// lone is a vector of n numbers that are 0, but for one.
func lone(n, at, number int) []int {
	x := make([]int, n)
	x[at] = number
	return x
}

// whatever are n numbers such as may stand in a list that is written into.
func whatever(n, turn int) []int {
	l := []int{0, 99, -1, math.MinInt, 7, math.MaxInt, -33, 1 << 32}
	x := make([]int, n)
	for at := range x {
		x[at] = l[(at+turn)%len(l)]
	}
	return x
}

func mustInto(t *testing.T, tab *table.Table, k int, i uint64, want []int) {
	t.Helper()
	// Numbers stand around the list too, and are none of it.
	around := whatever(len(want)+4, int(i%8))
	was := slices.Clone(around)
	x := around[2 : 2+len(want)]
	if !tab.Into(x, k, i) || !slices.Equal(x, want) {
		t.Fatalf("Into %d numbers, %d, %d: %v, not %v", len(want), k, i, x, want)
	}
	if !slices.Equal(around[:2], was[:2]) || !slices.Equal(around[2+len(want):], was[2+len(want):]) {
		t.Fatalf("Into %d numbers, %d, %d wrote beside them: %v", len(want), k, i, around)
	}
}

func mustRefuseInto(t *testing.T, tab *table.Table, n, k int, i uint64) {
	t.Helper()
	x := whatever(n, int(i%8))
	was := slices.Clone(x)
	if tab.Into(x, k, i) {
		t.Fatalf("Into %d numbers, %d, %d: not refused", n, k, i)
	}
	if !slices.Equal(x, was) {
		t.Fatalf("Into %d numbers, %d, %d wrote %v", n, k, i, x)
	}
}

func mustRank(t *testing.T, tab *table.Table, x []int, want uint64) {
	t.Helper()
	was := slices.Clone(x)
	if i, ok := tab.Rank(x); !ok || i != want {
		t.Fatalf("Rank(%v): %d, %t, not %d", x, i, ok, want)
	}
	if !slices.Equal(x, was) {
		t.Fatalf("Rank(%v) wrote %v", was, x)
	}
}

func mustRefuseRank(t *testing.T, tab *table.Table, x []int) {
	t.Helper()
	was := slices.Clone(x)
	if i, ok := tab.Rank(x); ok || i != 0 {
		t.Fatalf("Rank(%v): %d, %t, not refused", x, i, ok)
	}
	if !slices.Equal(x, was) {
		t.Fatalf("Rank(%v) wrote %v", was, x)
	}
}

func TestExample(t *testing.T) {
	x := make([]int, 2)
	if !table.New().Into(x, 2, 7) || !slices.Equal(x, []int{-2, 0}) {
		t.Error(x)
	}
}

func TestVRows(t *testing.T) {
	tab := table.New()
	for _, c := range []struct {
		n, k int
		want uint64
	}{
		{0, 0, 1}, {0, 1, 0}, {0, 31, 0}, {0, 32, 0}, {1, 0, 1}, {15, 0, 1}, {16, 0, 1},
		{1, 1, 2}, {1, 31, 2}, {1, 32, 2}, {2, 1, 4}, {2, 2, 8}, {2, 3, 12}, {2, 32, 128},
		{3, 1, 6}, {3, 2, 18}, {3, 3, 38}, {15, 1, 30}, {15, 2, 450}, {16, 1, 32}, {16, 2, 512},
		{15, 31, 357279785395230}, {15, 32, 549758831116290}, {16, 31, 1553917277469664}, {16, 32, 2460955893981184},
		{17, 0, 0}, {17, 32, 0}, {16, 33, 0}, {0, 33, 0}, {-1, 0, 0}, {0, -1, 0}, {-1, -1, 0}, {17, 33, 0},
	} {
		if got := tab.V(c.n, c.k); got != c.want {
			t.Errorf("V(%d, %d): %d, not %d", c.n, c.k, got, c.want)
		}
	}
}

// Every V is a book's, and those that are outside too.
func TestVIsABooks(t *testing.T) {
	tab, b := table.New(), count.New()
	ns, ks := slices.Clone(outsideN), slices.Clone(outsideK)
	for n := range numbers + 1 {
		ns = append(ns, n)
	}
	for k := range pulses + 1 {
		ks = append(ks, k)
	}
	for _, n := range ns {
		for _, k := range ks {
			if got, want := tab.V(n, k), b.V(n, k); got != want {
				t.Errorf("V(%d, %d): %d, not %d", n, k, got, want)
			}
		}
	}
	for _, n := range outsideN {
		for _, k := range ks {
			if got := tab.V(n, k); got != 0 {
				t.Errorf("V(%d, %d): %d, not 0", n, k, got)
			}
		}
	}
	for _, n := range ns {
		for _, k := range outsideK {
			if got := tab.V(n, k); got != 0 {
				t.Errorf("V(%d, %d): %d, not 0", n, k, got)
			}
		}
	}
}

// Literals, each of a new table.
func TestRows(t *testing.T) {
	for _, c := range []struct {
		x []int
		k int
		i uint64
	}{
		{[]int{}, 0, 0}, {[]int{0}, 0, 0}, {[]int{1}, 1, 0}, {[]int{-1}, 1, 1},
		{[]int{31}, 31, 0}, {[]int{-31}, 31, 1}, {[]int{32}, 32, 0}, {[]int{-32}, 32, 1},
		{[]int{0, 2}, 2, 0}, {[]int{0, -2}, 2, 1}, {[]int{1, 1}, 2, 2}, {[]int{1, -1}, 2, 3}, {[]int{-1, 1}, 2, 4},
		{[]int{-1, -1}, 2, 5}, {[]int{2, 0}, 2, 6}, {[]int{-2, 0}, 2, 7},
		{[]int{0, 3}, 3, 0}, {[]int{1, 2}, 3, 2}, {[]int{-3, 0}, 3, 11},
		// Behind V(2, 2) that begin with 0: 8; behind V(2, 1) with 1: 12, and with -1: 16.
		{[]int{0, -2, 0}, 2, 7}, {[]int{1, 0, 1}, 2, 8}, {[]int{-1, 0, 1}, 2, 12}, {[]int{2, 0, 0}, 2, 16}, {[]int{-2, 0, 0}, 2, 17},
		// V(15, 32) begin with 0, V(15, 31) with 1.
		{lone(16, 15, 32), 32, 0}, {lone(16, 15, -32), 32, 1},
		{append([]int{1}, lone(15, 14, 31)...), 32, 549758831116290},
		{append([]int{-1}, lone(15, 14, 31)...), 32, 549758831116290 + 357279785395230},
		{lone(16, 0, 32), 32, 2460955893981182}, {lone(16, 0, -32), 32, 2460955893981183},
		{lone(16, 1, -32), 32, 549758831116289}, {lone(16, 0, -31), 31, 1553917277469663},
		{lone(15, 0, -32), 32, 549758831116289}, {lone(15, 0, 31), 31, 357279785395228},
		{lone(16, 0, 1), 1, 30}, {lone(16, 0, -1), 1, 31}, {lone(16, 8, 1), 1, 14}, {make([]int, 16), 0, 0},
	} {
		mustRank(t, table.New(), c.x, c.i)
		mustInto(t, table.New(), c.k, c.i, c.x)
	}
}

// Every vector of small n and k, in order, both ways, and none behind the last.
func TestOneByOne(t *testing.T) {
	tab := table.New()
	for _, p := range small() {
		l := all(p.N, p.K)
		for i, x := range l {
			mustInto(t, tab, p.K, uint64(i), x)
			mustRank(t, tab, x, uint64(i))
		}
		mustRefuseInto(t, tab, p.N, p.K, uint64(len(l)))
		mustRefuseInto(t, tab, p.N, p.K, uint64(len(l))+1)
		mustRefuseInto(t, tab, p.N, p.K, math.MaxUint64)
	}
}

// Of every n and k: what is written is what layer 11 tells of that rank, and
// there is none behind the last one.
func TestIntoIsLayer11s(t *testing.T) {
	tab, b := table.New(), count.New()
	for n := range numbers + 1 {
		for k := range pulses + 1 {
			v := b.V(n, k)
			for _, i := range []uint64{v, v + 1, 2*v + 1, 1 << 40, 1 << 63, math.MaxUint64 - 1, math.MaxUint64} {
				mustRefuseInto(t, tab, n, k, max(i, v))
			}
			if v == 0 {
				mustRefuseInto(t, tab, n, k, 0)
				continue
			}
			for _, i := range somewhere(v) {
				want, e := rank.Unrank(b, n, k, i)
				if e != api.OK {
					t.Fatal(n, k, i, e)
				}
				mustInto(t, tab, k, i, want)
				mustRank(t, tab, want, i)
			}
			if n > 0 {
				mustInto(t, tab, k, 0, lone(n, n-1, k))
				mustInto(t, tab, k, v-1, lone(n, 0, -k))
			}
		}
	}
}

// Vectors that lie side by side, up from many places, written over one another.
func TestSideBySide(t *testing.T) {
	tab, b := table.New(), count.New()
	for _, p := range []count.Pair{{N: 4, K: 32}, {N: 8, K: 13}, {N: 15, K: 32}, {N: 16, K: 3}, {N: 16, K: 31}, {N: 16, K: 32}} {
		x := make([]int, p.N)
		v := tab.V(p.N, p.K)
		for _, from := range somewhere(v) {
			for i := from; i < min(from+40, v); i++ {
				want, e := rank.Unrank(b, p.N, p.K, i)
				if e != api.OK {
					t.Fatal(p, i, e)
				}
				if !tab.Into(x, p.K, i) || !slices.Equal(x, want) {
					t.Fatalf("Into %d numbers, %d, %d: %v, not %v", p.N, p.K, i, x, want)
				}
				mustRank(t, tab, x, i)
			}
		}
	}
}

func TestIntoOutside(t *testing.T) {
	tab := table.New()
	for _, i := range []uint64{0, 1, 7, 1 << 40, math.MaxUint64} {
		for _, n := range []int{17, 18, 32, 33, 256, 1000, 1 << 16} {
			for _, k := range append([]int{0, 1, 2, 31, 32}, outsideK...) {
				mustRefuseInto(t, tab, n, k, i)
			}
		}
		for n := range numbers + 1 {
			for _, k := range outsideK {
				mustRefuseInto(t, tab, n, k, i)
			}
		}
	}
}

func TestNoNumbersOrPulses(t *testing.T) {
	tab := table.New()
	for _, none := range [][]int{nil, {}} {
		if !tab.Into(none, 0, 0) {
			t.Error("into no numbers")
		}
		if tab.Into(none, 0, 1) || tab.Into(none, 1, 0) || tab.Into(none, 32, 0) || tab.Into(none, -1, 0) || tab.Into(none, 33, 0) {
			t.Error("into no numbers: not refused")
		}
		mustRank(t, tab, none, 0)
	}
	for n := range numbers + 1 {
		mustInto(t, tab, 0, 0, make([]int, n))
		mustRank(t, tab, make([]int, n), 0)
		mustRefuseInto(t, tab, n, 0, 1)
	}
}

// A list has as many numbers as it is long, whatever it has room for.
func TestRoomCountsForNothing(t *testing.T) {
	tab := table.New()
	room := whatever(64, 0)
	was := slices.Clone(room)
	if !tab.Into(room[:2], 2, 7) || !slices.Equal(room[:2], []int{-2, 0}) || !slices.Equal(room[2:], was[2:]) {
		t.Error(room)
	}
	mustRank(t, tab, room[:2], 7)
	if tab.Into(room[:2], 2, 8) || tab.Into(room[:17], 1, 0) || tab.Into(room[:0], 1, 0) || !slices.Equal(room[2:], was[2:]) {
		t.Error(room)
	}
}

// Any list: its rank is what layer 11 tells, or there is none.
func TestRankIsLayer11s(t *testing.T) {
	tab, b := table.New(), count.New()
	l := []int{
		0, 0, 0, 1, -1, 0, 2, 0, -2, 3, 0, -5, 1, 8, 0, 0, 1, -16, 0, -1, 31, -31, 32, 0, -32, 33, -33, 0, 64, 256,
		1000, -1001, 1 << 32, 1<<32 + 1, -1 << 32, math.MaxInt, math.MinInt, math.MinInt + 1,
	}
	fine, refused := 0, 0
	chance := uint64(1)
	for n := range numbers + 3 {
		for range 2000 {
			x := make([]int, n)
			for at := range x {
				chance = chance*6364136223846793005 + 1442695040888963407
				// Most lists have few pulses, some have numbers of any kind.
				x[at] = l[int(chance>>33)%(1+int(chance>>60)*len(l)/15)%len(l)]
			}
			want, e := rank.Rank(b, x...)
			if e != api.OK {
				refused++
				mustRefuseRank(t, tab, x)
				continue
			}
			fine++
			mustRank(t, tab, x, want)
			mustInto(t, tab, rank.Pulses(x...), want, x)
		}
	}
	if fine < 1000 || refused < 1000 {
		t.Error(fine, refused)
	}
}

// The edges of what has a rank: 16 numbers and 32 pulses have one, no more do.
func TestRankOutside(t *testing.T) {
	tab, b := table.New(), count.New()
	for _, n := range []int{1, 2, 15, 16} {
		for at := range n {
			for _, number := range []int{31, -31, 32, -32} {
				want, e := rank.Rank(b, lone(n, at, number)...)
				if e != api.OK {
					t.Fatal(n, at, number, e)
				}
				mustRank(t, tab, lone(n, at, number), want)
			}
			for _, number := range []int{
				33, -33, 34, 64, 256, 999, 1000, 1001, -1000, -1001, 1 << 32, -1 << 32, 1<<32 + 1, -1<<32 + 1,
				math.MinInt, math.MinInt + 1, math.MaxInt - 1, math.MaxInt,
			} {
				mustRefuseRank(t, tab, lone(n, at, number))
			}
		}
	}
	for _, n := range []int{17, 18, 32, 33, 256, 1000, 1001, 1 << 16} {
		mustRefuseRank(t, tab, make([]int, n))
		mustRefuseRank(t, tab, lone(n, 0, 1))
		mustRefuseRank(t, tab, lone(n, n-1, 33))
	}
}

// Pulses of several numbers: 32 in all have a rank, 33 and those whose sum
// would go round have none.
func TestRankPulsesInAll(t *testing.T) {
	tab, b := table.New(), count.New()
	for _, x := range [][]int{
		{20, -13}, {-16, -17}, {32, 1}, {1, -32}, {math.MinInt, math.MinInt}, {math.MinInt, math.MaxInt}, {math.MaxInt, math.MaxInt, 2},
		{math.MinInt, math.MinInt, 1}, {1, math.MinInt, -1}, {1 << 62, 1 << 62, 1 << 62, 1 << 62}, {1 << 62, -1 << 62, 1 << 62, -1 << 62, 3},
		slices.Repeat([]int{3}, 11), slices.Repeat([]int{-2, 2, -2, 3}, 4), slices.Repeat([]int{32}, 16),
		slices.Repeat([]int{math.MinInt}, 16), slices.Repeat([]int{math.MaxInt}, 16), slices.Repeat([]int{1 << 60}, 16),
	} {
		mustRefuseRank(t, tab, x)
	}
	for _, x := range [][]int{
		{20, -12}, {-16, -16}, {31, 1}, {1, -31}, {-31, -1}, {0, 32}, {-32, 0},
		slices.Repeat([]int{-2, 2}, 8), slices.Repeat([]int{-1}, 16), append(slices.Repeat([]int{3}, 10), -2),
	} {
		want, e := rank.Rank(b, x...)
		if e != api.OK {
			t.Fatal(x, e)
		}
		mustRank(t, tab, x, want)
		mustInto(t, tab, rank.Pulses(x...), want, x)
	}
}

// answers is all that a table tells of some questions.
func answers(tab *table.Table, backwards bool) map[count.Pair][]uint64 {
	told := make(map[count.Pair][]uint64)
	var ps []count.Pair
	for n := range numbers + 2 {
		for k := range pulses + 2 {
			ps = append(ps, count.Pair{N: n, K: k})
		}
	}
	if backwards {
		slices.Reverse(ps)
	}
	for _, p := range ps {
		v := tab.V(p.N, p.K)
		told[p] = []uint64{v}
		x := whatever(p.N, p.K)
		for _, i := range []uint64{0, v / 2, v / 3, v - 1, v} {
			if !tab.Into(x, p.K, i) {
				told[p] = append(told[p], math.MaxUint64)
				continue
			}
			for _, number := range x {
				told[p] = append(told[p], uint64(number))
			}
			r, ok := tab.Rank(x)
			told[p] = append(told[p], r)
			if !ok {
				told[p] = append(told[p], math.MaxUint64)
			}
		}
	}
	return told
}

// Again and again, in whatever order, of a new table, one that was asked much,
// and one beside which others are asked: the same.
func TestAgainAndAgain(t *testing.T) {
	tab := table.New()
	first := answers(tab, false)
	for turn := range 4 {
		for _, told := range []map[count.Pair][]uint64{answers(tab, turn%2 == 0), answers(table.New(), turn%2 == 1)} {
			for p, want := range first {
				if !slices.Equal(told[p], want) {
					t.Fatalf("%v: %v, not %v", p, told[p], want)
				}
			}
		}
		tab.Rank([]int{math.MinInt, math.MaxInt})
		tab.Into(make([]int, 17), 33, math.MaxUint64)
	}
}

// What was written is the caller's: a table keeps none of it.
func TestWrittenIsTheCallers(t *testing.T) {
	tab := table.New()
	x, y := make([]int, 4), make([]int, 4)
	want := []int{-2, 0, 1, -3}
	if !tab.Into(x, 6, 419) || !tab.Into(y, 6, 419) || !slices.Equal(x, want) || !slices.Equal(y, want) {
		t.Fatal(x, y)
	}
	for at := range x {
		x[at] = 99
	}
	if !slices.Equal(y, want) {
		t.Error(y)
	}
	mustInto(t, tab, 6, 419, want)
	mustRank(t, tab, y, 419)
}

// All is worked out once: no question needs new memory.
func TestWorkedOutOnce(t *testing.T) {
	tab := table.New()
	x := make([]int, numbers)
	if need := testing.AllocsPerRun(10, func() {
		for n := range numbers + 1 {
			for k := range pulses + 1 {
				v := tab.V(n, k)
				tab.Into(x[:n], k, v/2)
				tab.Into(x[:n], k, v)
				tab.Rank(x[:n])
			}
		}
	}); need != 0 {
		t.Error(need)
	}
}

// A table that didn't come of New may be asked as well: nothing panics.
func TestZeroTable(t *testing.T) {
	var tab table.Table
	for n := range numbers + 2 {
		for k := -1; k <= pulses+1; k++ {
			x := make([]int, n)
			tab.V(n, k)
			tab.Into(x, k, 0)
			tab.Into(x, k, math.MaxUint64)
			if n > 0 {
				tab.Rank(lone(n, n-1, k))
			}
		}
	}
}
