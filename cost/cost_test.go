package cost_test

import (
	"math"
	"math/bits"
	"slices"
	"testing"

	"spinet/api"
	"spinet/cost"
	"spinet/count"
	"spinet/table"
)

const (
	numbers = 16
	pulses  = 32
	refused = -1
)

// outsideN are numbers of numbers that have no cost, outsideK numbers of
// pulses that no vector has.
var (
	outsideN = []int{
		math.MinInt, math.MinInt + 1, -1 << 32, -1<<32 + 2, -17, -16, -8, -2, -1, 0,
		17, 18, 24, 32, 33, 64, 256, 1 << 31, 1 << 32, 1<<32 + 2, 1<<32 + 16, math.MaxInt - 1, math.MaxInt,
	}
	outsideK = []int{
		math.MinInt, math.MinInt + 1, -1 << 32, -1<<32 + 2, -33, -32, -2, -1,
		33, 34, 64, 256, 1 << 31, 1 << 32, 1<<32 + 2, 1<<32 + 32, math.MaxInt - 1, math.MaxInt,
	}
)

// rows are all that there is as literals: of each n what 0 pulses cost, one,
// and so on up to the greatest number of them.
var rows = [numbers + 1][]int{
	1:  {0, 2, 2, 2, 2, 2, 2, 2, 2, 2, 2, 2, 2, 2, 2, 2, 2, 2, 2, 2, 2, 2, 2, 2, 2, 2, 2, 2, 2, 2, 2, 2, 2},
	2:  {0, 3, 4, 5, 5, 6, 6, 6, 6, 7, 7, 7, 7, 7, 7, 7, 7, 8, 8, 8, 8, 8, 8, 8, 8, 8, 8, 8, 8, 8, 8, 8, 8},
	3:  {0, 4, 6, 7, 8, 8, 9, 9, 10, 10, 10, 10, 11, 11, 11, 11, 12, 12, 12, 12, 12, 12, 12, 13, 13, 13, 13, 13, 13, 13, 13, 13, 14},
	4:  {0, 4, 6, 8, 9, 10, 11, 11, 12, 12, 13, 13, 14, 14, 14, 15, 15, 15, 15, 16, 16, 16, 16, 16, 17, 17, 17, 17, 17, 17, 18, 18, 18},
	5:  {0, 5, 7, 9, 10, 11, 12, 13, 14, 15, 15, 16, 16, 17, 17, 18, 18, 18, 19, 19, 19, 20, 20, 20, 20, 21, 21, 21, 21, 21},
	6:  {0, 5, 8, 10, 11, 13, 14, 15, 16, 17, 17, 18, 19, 19, 20, 20, 21, 21, 21},
	7:  {0, 5, 8, 10, 12, 14, 15, 16, 17, 18, 19, 20, 21, 21},
	8:  {0, 5, 8, 11, 13, 15, 16, 18, 19, 20, 21},
	9:  {0, 7, 12, 14, 17, 19, 21, 22, 24, 25, 26, 27, 28, 29, 30, 31, 32, 33, 33, 34, 34, 35, 35, 36, 36, 37, 37, 38, 38, 38},
	10: {0, 7, 13, 15, 18, 20, 22, 23, 25, 26, 27, 28, 29, 30, 31, 32, 34, 35, 36, 36, 37, 37, 38, 38, 39, 39, 40, 40, 41, 41},
	11: {0, 7, 13, 16, 19, 21, 23, 24, 27, 28, 29, 30, 31, 32, 33, 34, 36, 37, 38},
	12: {0, 7, 13, 16, 20, 22, 24, 25, 28, 29, 31, 32, 33, 34, 35, 36, 38, 39, 40},
	13: {0, 7, 13, 16, 20, 22, 24, 26, 29, 30, 32, 33, 34, 35},
	14: {0, 7, 13, 16, 20, 22, 24, 26, 29, 31, 33, 34, 35, 36},
	15: {0, 7, 13, 16, 20, 23, 25, 27, 30, 32, 34},
	16: {0, 7, 13, 16, 20, 23, 26, 28, 31, 33, 35},
}

// choose is in how many ways k of n can be chosen.
func choose(n, k int) uint64 {
	if k > n {
		return 0
	}
	ways := uint64(1)
	for i := range k {
		ways = ways * uint64(n-i) / uint64(i+1)
	}
	return ways
}

// vectors is V by another way than chapter 10's: i of the numbers aren't 0,
// each of them has a sign, and k pulses go to them, to each at least one.
func vectors(n, k int) uint64 {
	if k == 0 {
		return 1
	}
	v := uint64(0)
	for i := 1; i <= min(n, k); i++ {
		v += choose(n, i) << i * choose(k-1, i-1)
	}
	return v
}

// wantCap is the greatest number of pulses by the chapter's words.
func wantCap(n int) int {
	if n < 1 || n > numbers {
		return refused
	}
	if n > 8 {
		return min(wantCap(n/2), wantCap(n-n/2))
	}
	k := pulses
	for vectors(n, k) > 1<<20 {
		k--
	}
	return k
}

// wantBits is what pulses cost by the chapter's words.
func wantBits(n, k int) int {
	switch {
	case n < 1 || n > numbers || k < 0 || k > wantCap(n):
		return refused
	case k == 0:
		return 0
	case n <= 8:
		return bits.Len64(vectors(n, k)-1) + 1
	}
	var sums []int
	for a := range k + 1 {
		sums = append(sums, wantBits(n/2, a)+wantBits(n-n/2, k-a))
	}
	return bits.Len(uint(k)) + 1 + slices.Max(sums)
}

// teller is what tells costs: a book, or a sheet.
type teller struct {
	what string
	cap  func(n int) int
	bits func(n, k int) int
}

func ofBook(what string, b *count.Book) teller {
	return teller{
		what,
		func(n int) int { return cost.Cap(b, n) },
		func(n, k int) int { return cost.Bits(b, n, k) },
	}
}

func ofSheet(what string, s *cost.Sheet) teller { return teller{what, s.Cap, s.Bits} }

// tellers are new ones and such as were asked much: a book in which all is
// noted, and those that were asked for all costs there are.
func tellers() []teller {
	full, used, sheet := count.New(), count.New(), cost.New(table.New())
	full.V(numbers, pulses)
	for n := -1; n <= numbers+1; n++ {
		for k := -1; k <= pulses+1; k++ {
			cost.Bits(used, n, k)
			sheet.Bits(n, k)
		}
		cost.Cap(used, n)
		sheet.Cap(n)
	}
	return []teller{
		ofBook("a new book", count.New()), ofBook("a full book", full), ofBook("a used book", used),
		ofSheet("a new sheet", cost.New(table.New())), ofSheet("a used sheet", sheet),
	}
}

func (l teller) mustCap(t *testing.T, n, want int) {
	t.Helper()
	if got := l.cap(n); got != want {
		t.Fatalf("%s: Cap(%d): %d, not %d", l.what, n, got, want)
	}
}

func (l teller) mustBits(t *testing.T, n, k, want int) {
	t.Helper()
	if got := l.bits(n, k); got != want {
		t.Fatalf("%s: Bits(%d, %d): %d, not %d", l.what, n, k, got, want)
	}
}

// everyN are all numbers of numbers, inside and outside; everyK those of pulses.
func everyN() []int {
	l := slices.Clone(outsideN)
	for n := range numbers {
		l = append(l, n+1)
	}
	return l
}

func everyK() []int {
	l := slices.Clone(outsideK)
	for k := range pulses + 1 {
		l = append(l, k)
	}
	return l
}

func TestExample(t *testing.T) {
	if x := cost.Bits(count.New(), 2, 3); x != 5 {
		t.Error(x)
	}
	if x := cost.New(table.New()).Bits(2, 3); x != 5 {
		t.Error(x)
	}
}

// All literals, from the front and from the back, and each of a new book.
func TestRows(t *testing.T) {
	for _, l := range tellers() {
		for n := 1; n <= numbers; n++ {
			l.mustCap(t, n, len(rows[n])-1)
			for k, want := range rows[n] {
				l.mustBits(t, n, k, want)
			}
		}
	}
	for _, l := range tellers() {
		for n := numbers; n > 0; n-- {
			for k := len(rows[n]) - 1; k >= 0; k-- {
				l.mustBits(t, n, k, rows[n][k])
				ofBook("a book of its own", count.New()).mustBits(t, n, k, rows[n][k])
			}
			l.mustCap(t, n, len(rows[n])-1)
			ofBook("a book of its own", count.New()).mustCap(t, n, len(rows[n])-1)
		}
	}
}

// The edges that the chapter names, as literals.
func TestEdges(t *testing.T) {
	for _, l := range tellers() {
		for _, c := range []struct{ n, want int }{
			{math.MinInt, -1}, {-1, -1}, {0, -1}, {1, 32}, {2, 32}, {4, 32}, {5, 29}, {7, 13},
			{8, 10}, {9, 29}, {15, 10}, {16, 10}, {17, -1}, {math.MaxInt, -1},
		} {
			l.mustCap(t, c.n, c.want)
			for _, k := range []int{math.MinInt, -1, c.want + 1, 33, math.MaxInt} {
				l.mustBits(t, c.n, k, -1)
			}
			l.mustBits(t, c.n, 0, min(c.want, 0))
		}
		for _, c := range []struct{ n, k, want int }{
			{1, 1, 2}, {1, 32, 2}, {1, 33, -1}, {2, 1, 3}, {2, 32, 8}, {2, 33, -1},
			{5, 29, 21}, {5, 30, -1}, {5, 32, -1}, {6, 18, 21}, {6, 19, -1}, {7, 13, 21}, {7, 14, -1},
			{8, 1, 5}, {8, 10, 21}, {8, 11, -1}, {8, 32, -1}, {9, 1, 7}, {9, 29, 38}, {9, 30, -1}, {9, 32, -1},
			{15, 1, 7}, {15, 10, 34}, {15, 11, -1}, {15, 13, -1}, {16, 1, 7}, {16, 10, 35}, {16, 11, -1}, {16, 32, -1},
		} {
			l.mustBits(t, c.n, c.k, c.want)
		}
	}
}

// Cap of up to 8 numbers has vectors enough, and one pulse more has too many,
// or there may be none more.
func TestCapIsTheGreatest(t *testing.T) {
	b := count.New()
	for _, l := range tellers() {
		for n := 1; n <= 8; n++ {
			k := l.cap(n)
			if k < 1 || k > pulses || b.V(n, k) > api.MaxCount || vectors(n, k) > api.MaxCount {
				t.Errorf("%s: Cap(%d): %d: too many vectors", l.what, n, k)
			}
			if k < pulses && (b.V(n, k+1) <= api.MaxCount || vectors(n, k+1) <= api.MaxCount) {
				t.Errorf("%s: Cap(%d): %d: there may be more", l.what, n, k)
			}
		}
	}
}

// Cap of more than 8 numbers is the lesser one of both parts.
func TestCapOfParts(t *testing.T) {
	for _, l := range tellers() {
		for n := 9; n <= numbers; n++ {
			l.mustCap(t, n, min(l.cap(n/2), l.cap(n-n/2)))
		}
	}
}

// Every n and k, inside and outside, by the chapter's words.
func TestByTheWords(t *testing.T) {
	for _, l := range tellers() {
		for _, n := range everyN() {
			l.mustCap(t, n, wantCap(n))
			for _, k := range everyK() {
				l.mustBits(t, n, k, wantBits(n, k))
			}
		}
	}
}

func TestOutside(t *testing.T) {
	for _, l := range tellers() {
		for _, n := range outsideN {
			l.mustCap(t, n, refused)
			for _, k := range everyK() {
				l.mustBits(t, n, k, refused)
			}
		}
		for n := 1; n <= numbers; n++ {
			for _, k := range outsideK {
				l.mustBits(t, n, k, refused)
			}
			for k := l.cap(n) + 1; k <= pulses+2; k++ {
				l.mustBits(t, n, k, refused)
			}
		}
	}
}

func TestMoreIsNeverLess(t *testing.T) {
	for _, l := range tellers() {
		for n := 1; n <= numbers; n++ {
			for k := 1; k <= l.cap(n); k++ {
				if l.bits(n, k) < l.bits(n, k-1) {
					t.Errorf("%s: Bits(%d, %d): %d, below %d", l.what, n, k, l.bits(n, k), l.bits(n, k-1))
				}
			}
		}
	}
}

// The greatest rank needs all the bits that its vector costs, but for the one
// that is added.
func TestRanksHaveRoom(t *testing.T) {
	for _, l := range tellers() {
		for n := 1; n <= 8; n++ {
			for k := 1; k <= l.cap(n); k++ {
				room := uint64(1) << (l.bits(n, k) - 1)
				if v := vectors(n, k); v > room || v <= room/2 {
					t.Errorf("%s: Bits(%d, %d): %d, for %d vectors", l.what, n, k, l.bits(n, k), v)
				}
			}
		}
	}
}

// Nothing that is split costs more than what is told of it, and one way of it
// costs as much.
func TestEverySplitHasRoom(t *testing.T) {
	for _, l := range tellers() {
		for n := 9; n <= numbers; n++ {
			for k := 1; k <= l.cap(n); k++ {
				as := uint64(1) << l.bits(n, k)
				exact := false
				for a := range k + 1 {
					former, latter := l.bits(n/2, a), l.bits(n-n/2, k-a)
					if former < 0 || latter < 0 {
						t.Fatalf("%s: %d of %d pulses of %d numbers: a part has no cost", l.what, a, k, n)
					}
					each := uint64(1) << (former + latter + bits.Len(uint(k)) + 1)
					if each > as {
						t.Errorf("%s: Bits(%d, %d): too few for %d", l.what, n, k, a)
					}
					exact = exact || each == as
				}
				if !exact {
					t.Errorf("%s: Bits(%d, %d): %d: more than any costs", l.what, n, k, l.bits(n, k))
				}
			}
		}
	}
}

// A sheet tells what a book does, each n and k of a book of its own too.
func TestSheetIsABook(t *testing.T) {
	s, b := cost.New(table.New()), count.New()
	for _, n := range everyN() {
		if x, y, z := s.Cap(n), cost.Cap(b, n), cost.Cap(count.New(), n); x != y || x != z {
			t.Errorf("Cap(%d): %d, %d, %d", n, x, y, z)
		}
		for _, k := range everyK() {
			if x, y, z := s.Bits(n, k), cost.Bits(b, n, k), cost.Bits(count.New(), n, k); x != y || x != z {
				t.Errorf("Bits(%d, %d): %d, %d, %d", n, k, x, y, z)
			}
		}
	}
}

// Again and again, in orders that jump about, others asked between: the same.
func TestAgainAndAgain(t *testing.T) {
	ns, ks := everyN(), everyK()
	wants := make(map[count.Pair]int)
	for _, n := range ns {
		for _, k := range ks {
			wants[count.Pair{N: n, K: k}] = wantBits(n, k)
		}
	}
	for _, l := range tellers() {
		chance := uint64(1)
		next := func(below int) int {
			chance = chance*6364136223846793005 + 1442695040888963407
			return int(chance>>33) % below
		}
		for range 20000 {
			n, k := ns[next(len(ns))], ks[next(len(ks))]
			l.mustBits(t, n, k, wants[count.Pair{N: n, K: k}])
			if n = ns[next(len(ns))]; next(2) == 0 {
				l.mustCap(t, n, wantCap(n))
			}
		}
	}
}

// A book that is asked between for other things tells the same, and so does
// the book itself of what it counts.
func TestBookAskedForOtherThings(t *testing.T) {
	b := count.New()
	l := ofBook("a book between others", b)
	for n := numbers; n > 0; n-- {
		for k := range wantCap(n) + 1 {
			b.Row(k%17, n)
			l.mustBits(t, n, k, wantBits(n, k))
			b.Has(count.Pair{N: n, K: k})
			l.mustCap(t, n, wantCap(n))
		}
	}
	for n := range numbers + 1 {
		for k := range pulses + 1 {
			if v := b.V(n, k); v != vectors(n, k) {
				t.Errorf("V(%d, %d): %d", n, k, v)
			}
		}
	}
}

// notes are the pairs that are noted in a book.
func notes(b *count.Book) map[count.Pair]int {
	l := make(map[count.Pair]int)
	for n := range numbers + 2 {
		for k := range pulses + 2 {
			if p := (count.Pair{N: n, K: k}); b.Has(p) {
				l[p]++
			}
		}
	}
	return l
}

// What is refused notes nothing, in a new book and in one with some notes.
func TestRefusedNotesNothing(t *testing.T) {
	for _, noted := range []count.Pair{{}, {N: 2, K: 3}, {N: 5, K: 31}, {N: 8, K: 4}, {N: 7, K: 14}, {N: 16, K: 1}} {
		b := count.New()
		b.V(noted.N, noted.K)
		was := len(notes(b))
		for _, n := range everyN() {
			if wantCap(n) == refused {
				cost.Cap(b, n)
			}
			for _, k := range everyK() {
				if wantBits(n, k) != refused {
					continue
				}
				if x := cost.Bits(b, n, k); x != refused {
					t.Fatalf("Bits(%d, %d): %d", n, k, x)
				}
			}
			if now := len(notes(b)); now != was {
				t.Fatalf("%v: refused of %d numbers: %d notes, not %d", noted, n, now, was)
			}
		}
	}
}

// Books that are noted in by others, and one that didn't come of New.
func TestBooksAreApart(t *testing.T) {
	var zero count.Book
	a, b := count.New(), count.New()
	for n := 1; n <= numbers; n++ {
		for k := range pulses + 1 {
			ofBook("one book", a).mustBits(t, n, k, wantBits(n, k))
		}
	}
	if l := notes(b); len(l) != 0 {
		t.Error(l)
	}
	if l := notes(count.New()); len(l) != 0 {
		t.Error(l)
	}
	for n := 1; n <= numbers; n++ {
		ofBook("zero book", &zero).mustCap(t, n, wantCap(n))
		for k := range pulses + 1 {
			ofBook("the other book", b).mustBits(t, n, k, wantBits(n, k))
			ofBook("zero book", &zero).mustBits(t, n, k, wantBits(n, k))
		}
	}
}

// A sheet is worked out once: it needs no table any more, nor new memory, and
// no other sheet.
func TestSheetStandsForItself(t *testing.T) {
	tab := table.New()
	s, other := cost.New(tab), cost.New(tab)
	*tab = table.Table{}
	*other = cost.Sheet{}
	l := ofSheet("a sheet alone", s)
	ask := func() {
		for _, n := range outsideN {
			s.Cap(n)
			s.Bits(n, 1)
		}
		for n := range numbers + 1 {
			s.Cap(n)
			for k := range pulses + 2 {
				s.Bits(n, k)
			}
		}
	}
	if need := testing.AllocsPerRun(10, ask); need != 0 {
		t.Error(need)
	}
	copied := *s
	*s = cost.Sheet{}
	for _, n := range everyN() {
		ofSheet("a copy", &copied).mustCap(t, n, wantCap(n))
		for _, k := range everyK() {
			ofSheet("a copy", &copied).mustBits(t, n, k, wantBits(n, k))
		}
	}
	*s = copied
	for n := range numbers + 2 {
		l.mustCap(t, n, wantCap(n))
		for k := range pulses + 2 {
			l.mustBits(t, n, k, wantBits(n, k))
		}
	}
}

// A table from which a sheet was made tells what it told.
func TestTableStays(t *testing.T) {
	tab := table.New()
	cost.New(tab)
	for n := range numbers + 2 {
		for k := range pulses + 2 {
			if x, y := tab.V(n, k), table.New().V(n, k); x != y {
				t.Errorf("V(%d, %d): %d, not %d", n, k, x, y)
			}
		}
	}
}
