package alloc_test

import (
	"cmp"
	"math"
	"math/bits"
	"slices"
	"testing"

	"spinet/alloc"
	"spinet/api"
	"spinet/cost"
	"spinet/count"
	"spinet/mode"
	"spinet/table"
)

const refused = -1

// result is how many pulses each band gets.
type result = [api.MaxBands]int

// at is the mode of a size and channels, right or not.
func at(size, chans int) mode.Mode { return mode.Mode{Size: size, Chans: chans} }

// modes are all that are right, wrong are some that aren't.
var (
	modes = []mode.Mode{at(0, 1), at(0, 2), at(1, 1), at(1, 2), at(2, 1), at(2, 2)}
	wrong = []mode.Mode{
		at(0, 0), at(1, 0), at(2, 0), at(0, 3), at(1, 3), at(2, 3), at(0, -1), at(2, -1), at(-1, 1), at(-1, 2), at(3, 1), at(3, 2), at(-1, 0),
		at(8, 1), at(16, 2), at(32, 1), at(1<<32, 1), at(1, 1<<32+1), at(1<<32+2, 2),
		at(math.MaxInt, 1), at(math.MinInt, 2), at(0, math.MaxInt), at(2, math.MinInt),
		at(math.MaxInt, math.MaxInt), at(math.MinInt, math.MinInt),
	}
)

// trims are inside and outside, bands all that a mode may have and such as
// none has.
var (
	trims = []int{
		math.MinInt, math.MinInt + 1, -1 << 32, -8, -2, -1, 0, 1, 2, 3, 4, 5, 6, 7, 8, 9, 15, 16,
		1 << 32, 1<<32 + 3, math.MaxInt - 1, math.MaxInt,
	}
	bands = []int{
		math.MinInt, math.MinInt + 1, -1 << 32, -1<<32 + 1, -5, -2, -1, 0, 1, 2, 3, 4,
		5, 6, 8, 16, 1 << 32, 1<<32 + 1, math.MaxInt - 1, math.MaxInt,
	}
	// never are pulses that no band may have.
	never = []int{
		math.MinInt, math.MinInt + 1, -1 << 32, -1<<32 + 1, -33, -2, -1,
		33, 34, 64, 1 << 31, 1 << 32, 1<<32 + 1, math.MaxInt - 1, math.MaxInt,
	}
)

// wide are how wide the bands are, most how many pulses they may have.
var (
	wide = [api.MaxBands]int{2, 2, 4, 8, 16}
	most = result{32, 32, 32, 10, 10}
)

// whole is what all pulses of a mode cost that there may be.
var whole = map[mode.Mode]int{at(0, 1): 34, at(0, 2): 68, at(1, 1): 55, at(1, 2): 110, at(2, 1): 90, at(2, 2): 180}

// costs are what pulses cost as literals, by how wide the band is.
var costs = map[int][]int{
	2:  {0, 3, 4, 5, 5, 6, 6, 6, 6, 7, 7, 7, 7, 7, 7, 7, 7, 8, 8, 8, 8, 8, 8, 8, 8, 8, 8, 8, 8, 8, 8, 8, 8},
	4:  {0, 4, 6, 8, 9, 10, 11, 11, 12, 12, 13, 13, 14, 14, 14, 15, 15, 15, 15, 16, 16, 16, 16, 16, 17, 17, 17, 17, 17, 17, 18, 18, 18},
	8:  {0, 5, 8, 11, 13, 15, 16, 18, 19, 20, 21},
	16: {0, 7, 13, 16, 20, 23, 26, 28, 31, 33, 35},
}

// slopes are those of the bands as literals, by the trim.
var slopes = [8][api.MaxBands]int{
	{32, 40, 32, 32, 36},
	{32, 39, 30, 29, 32},
	{32, 38, 28, 26, 28},
	{32, 37, 26, 23, 24},
	{32, 36, 24, 20, 20},
	{32, 35, 22, 17, 16},
	{32, 34, 20, 14, 12},
	{32, 33, 18, 11, 8},
}

// orders are the bands to which all pulses go as literals, one behind the
// other, by size and trim.
var orders = [3][8]string{
	{
		"021021021020120210210210201202102102102012021021021020120210210210201202102102102012021021111111",
		"201201201202102012012021021021020120210210212020120120120210210201201202102102012021021010111111",
		"201201202102102102021201201202102102012021201201202102012021021201202102102012021021010100111111",
		"201201202102120210210201220120120210210221020120120212012021021022102012012021021010100101011111",
		"201201202120120210212021020122012012021201202102120210201220120120212012021021010010101010101111",
		"201202120120212012021202102120210210220120212012021201202120210212021021021001010101010101010111",
		"201220120212012021202120120212021021202120210221021022102201201220120210101010101010101010101011",
		"201220122012201202120122012201202120212021201220120212021202120210210101010101010101010101010101",
	},
	{
		"0231023102310230123023102310231023012302102102102012021021021020120210210210201202102102102012021021111111",
		"3201320132031203210320132031203210321021020120210210212020120120120210210201201202102102012021021010111111",
		"3201320132032103213023102302132031201202102102012021201201202102012021021201202102102012021021010100111111",
		"3201320312302130231203231032103201220120120210210221020120120212012021021022102012012021021010100101011111",
		"3201323012302312303120321302312021020122012012021201202102120210201220120120212012021021010010101010101111",
		"3203123023132031230231320312021202102120210210220120212012021201202120210212021021021001010101010101010111",
		"3230123320132303213230123021202120120212021021202120210221021022102201201220120210101010101010101010101011",
		"3230132323013233201323201202120122012201202120212021201220120212021202120210210101010101010101010101010101",
	},
	{
		"02341023410234102340123402314023140231023401234021402102102012021021021020120210210210201202102102102012021021111111",
		"32041320413204312043210432041320431204321043210421020120210210212020120120120210210201201202102102012021021010111111",
		"32401324013240324103241302431024302413240312401202102102012021201201202102012021021201202102102012021021010100111111",
		"34201342034123042134023412034231043241032401220120120210210221020120120212012021021022102012012021021010100101011111",
		"34201342340123402341234034120342134023412021020122012012021201202102120210201220120120212012021021010010101010101111",
		"43204312430423143204312430423143204312021202102120210210220120212012021201202120210212021021021001010101010101010111",
		"43243014234324013423404321432430123021202120120212021021202120210221021022102201201220120210101010101010101010101011",
		"43423404132434234041324343201323201202120122012201202120212021201220120212021202120210210101010101010101010101010101",
	},
}

// held is a trim within its bounds.
func held(trim int) int { return min(max(trim, 0), 7) }

// ofMode is what of some pulses a mode's bands may have.
func ofMode(m mode.Mode, k result) result {
	clear(k[3+m.Size:])
	return k
}

// choose is in how many ways k of n can be chosen.
func choose(n, k int) int {
	if k > n {
		return 0
	}
	ways := 1
	for i := range k {
		ways = ways * (n - i) / (i + 1)
	}
	return ways
}

// vectors is how many there are: i of the numbers aren't 0, each of them has a
// sign, and k pulses go to them, to each at least one.
func vectors(n, k int) int {
	v := 0
	for i := 1; i <= min(n, k); i++ {
		v += choose(n, i) << i * choose(k-1, i-1)
	}
	return v
}

// wantBits is what pulses of so many numbers cost by chapter 13's words.
func wantBits(n, k int) int {
	switch {
	case k == 0:
		return 0
	case n <= 8:
		return bits.Len(uint(vectors(n, k)-1)) + 1
	}
	dearest := 0
	for a := range k + 1 {
		dearest = max(dearest, wantBits(n/2, a)+wantBits(n-n/2, k-a))
	}
	return bits.Len(uint(k)) + 1 + dearest
}

// wantTotal is what pulses cost by the chapter's words.
func wantTotal(m mode.Mode, k result) int {
	if !slices.Contains(modes, m) {
		return refused
	}
	sum := 0
	for band, pulses := range k {
		if there := band < 3+m.Size; pulses < 0 || pulses > most[band] || !there && pulses != 0 {
			return refused
		}
		sum += wantBits(wide[band], pulses) * m.Chans
	}
	return sum
}

// pulse is one that may be given.
type pulse struct{ level, band int }

// inOrder are all pulses of a mode by the chapter's words: the one with the
// least level first, of several that of the lowest band.
func inOrder(m mode.Mode, trim int) []pulse {
	var l []pulse
	for band := range 3 + m.Size {
		slope := 64/wide[band] + (8-held(trim))*band
		for p := 1; p <= most[band]; p++ {
			l = append(l, pulse{p * slope, band})
		}
	}
	slices.SortFunc(l, func(a, b pulse) int {
		return cmp.Or(cmp.Compare(a.level, b.level), cmp.Compare(a.band, b.band))
	})
	return l
}

// share is what is given by and by, and what it costs each time.
type share struct {
	given []result
	costs []int
}

// shareOut gives pulses to the bands, as long as there are any.
func shareOut(m mode.Mode, to []int) share {
	s := share{given: []result{{}}, costs: []int{0}}
	k := result{}
	for _, band := range to {
		k[band]++
		s.given = append(s.given, k)
		s.costs = append(s.costs, wantTotal(m, k))
	}
	return s
}

// of is what a budget gets: all ahead of the first pulse that costs too much.
func (s share) of(budget int) result {
	k := result{}
	for i, given := range s.given {
		if s.costs[i] > budget {
			break
		}
		k = given
	}
	return k
}

// wantShare is a share by the chapter's words.
func wantShare(m mode.Mode, trim int) share {
	var to []int
	for _, p := range inOrder(m, trim) {
		to = append(to, p.band)
	}
	return shareOut(m, to)
}

// budgets are all from below 0 to beyond what all pulses of a mode cost, and
// some that are far outside.
func budgets(m mode.Mode) []int {
	l := []int{
		math.MinInt, math.MinInt + 1, -1 << 32, -1<<32 + 60, -1000,
		1000, 1 << 20, 1 << 31, 1 << 32, 1<<32 + 3, math.MaxInt - 1, math.MaxInt,
	}
	for budget := -10; budget <= whole[m]+10; budget++ {
		l = append(l, budget)
	}
	return l
}

// books are a new one, one in which all is noted, and one that was asked for
// all that is shared out here.
func books() map[string]*count.Book {
	full, used := count.New(), count.New()
	full.V(16, 32)
	for _, m := range modes {
		for _, trim := range trims {
			alloc.Alloc(used, m, trim, math.MaxInt)
			alloc.Alloc(used, m, trim, 17)
		}
		alloc.Total(used, m, most)
	}
	return map[string]*count.Book{"new": count.New(), "full": full, "used": used, "zero": {}}
}

func mustAlloc(t *testing.T, b *count.Book, m mode.Mode, trim, budget int, want result) {
	t.Helper()
	if k := alloc.Alloc(b, m, trim, budget); k != want {
		t.Fatalf("Alloc(%v, %d, %d): %v, not %v", m, trim, budget, k, want)
	}
}

func mustTotal(t *testing.T, b *count.Book, m mode.Mode, k result, want int) {
	t.Helper()
	if got := alloc.Total(b, m, k); got != want {
		t.Fatalf("Total(%v, %v): %d, not %d", m, k, got, want)
	}
}

func mustSlope(t *testing.T, m mode.Mode, trim, band, want int) {
	t.Helper()
	if got := alloc.Slope(m, trim, band); got != want {
		t.Fatalf("Slope(%v, %d, %d): %d, not %d", m, trim, band, got, want)
	}
}

// The chapter's example: the third band's pulse is looked at first, and costs
// too much; those of the first two bands would cost 3, and nobody gets any.
func TestExample(t *testing.T) {
	m, _ := mode.Of(8, 1)
	mustSlope(t, m, 7, 2, 16+2)
	mustTotal(t, count.New(), m, result{0, 0, 1}, 4)
	mustTotal(t, count.New(), m, result{1}, 3)
	mustTotal(t, count.New(), m, result{0, 1}, 3)
	mustAlloc(t, count.New(), m, 7, 3, result{})
	mustAlloc(t, count.New(), m, 7, 4, result{0, 0, 1})
}

// Every mode, with every trim and every band, inside and outside.
func TestSlope(t *testing.T) {
	for _, m := range modes {
		for _, trim := range trims {
			for _, band := range bands {
				want := 0
				if band >= 0 && band < 3+m.Size {
					want = slopes[held(trim)][band]
				}
				mustSlope(t, m, trim, band, want)
			}
		}
	}
	for _, m := range wrong {
		for _, trim := range trims {
			for _, band := range bands {
				mustSlope(t, m, trim, band, 0)
			}
		}
	}
}

// The edges of trim and band that the chapter names, as literals.
func TestSlopeRows(t *testing.T) {
	small, large := at(0, 2), at(2, 1)
	for _, c := range []struct {
		m                mode.Mode
		trim, band, want int
	}{
		{small, 0, 0, 32}, {small, 7, 0, 32}, {small, 0, 1, 40}, {small, -1, 1, 40}, {small, math.MinInt, 1, 40},
		{small, 7, 1, 33}, {small, 8, 1, 33}, {small, math.MaxInt, 1, 33}, {small, 3, 2, 26}, {small, 0, 2, 32}, {small, 7, 2, 18},
		{small, 0, 3, 0}, {small, 7, 3, 0}, {small, 0, 4, 0}, {small, 0, -1, 0}, {small, 0, math.MinInt, 0}, {small, 0, math.MaxInt, 0},
		{large, 0, 3, 32}, {large, 7, 3, 11}, {large, 0, 4, 36}, {large, -1, 4, 36}, {large, 1, 4, 32}, {large, 6, 4, 12},
		{large, 7, 4, 8}, {large, 8, 4, 8}, {large, math.MinInt, 4, 36}, {large, math.MaxInt, 4, 8},
		{large, 0, 5, 0}, {large, 7, 5, 0}, {large, 8, -1, 0}, {large, -1, math.MaxInt, 0},
		{mode.Mode{}, 0, 0, 0}, {at(3, 1), 0, 1, 0}, {at(0, 3), 0, 1, 0},
	} {
		mustSlope(t, c.m, c.trim, c.band, c.want)
	}
}

// What the pulses of each band alone cost, as literals, in every mode.
func TestTotalOfABand(t *testing.T) {
	for what, b := range books() {
		for _, m := range modes {
			for band := range 3 + m.Size {
				for pulses, each := range costs[wide[band]] {
					k := result{}
					k[band] = pulses
					if got := alloc.Total(b, m, k); got != each*m.Chans {
						t.Fatalf("%s book: Total(%v, %v): %d, not %d", what, m, k, got, each*m.Chans)
					}
				}
			}
			mustTotal(t, b, m, result{}, 0)
			mustTotal(t, b, m, ofMode(m, most), whole[m])
		}
	}
}

func TestTotalRows(t *testing.T) {
	for _, c := range []struct {
		m    mode.Mode
		k    result
		want int
	}{
		{at(0, 1), result{2, 1, 1}, 4 + 3 + 4},
		{at(0, 2), result{2, 1, 1}, 2 * (4 + 3 + 4)},
		{at(0, 1), result{32, 32, 32}, 8 + 8 + 18},
		{at(0, 1), result{32, 32, 32, 1}, -1},
		{at(0, 1), result{0, 0, 0, 0, 1}, -1},
		{at(0, 1), result{0, 0, 0, 0, -1}, -1},
		{at(0, 1), result{0, 0, 0, -1}, -1},
		{at(0, 1), result{33}, -1},
		{at(0, 1), result{0, -1}, -1},
		{at(0, 1), result{1, 1, -1}, -1},
		{at(1, 1), result{1, 0, 1, 1}, 3 + 4 + 5},
		{at(1, 2), result{0, 0, 0, 10}, 2 * 21},
		{at(1, 2), result{0, 0, 0, 11}, -1},
		{at(1, 2), result{0, 0, 0, 10, 1}, -1},
		{at(2, 1), result{1, 2, 3, 4, 5}, 3 + 4 + 8 + 13 + 23},
		{at(2, 2), result{0, 0, 0, 0, 10}, 2 * 35},
		{at(2, 2), result{0, 0, 0, 0, 11}, -1},
		{at(2, 2), result{0, 0, 0, 0, 32}, -1},
		{at(2, 2), result{32, 32, 32, 10, 10}, 180},
		{at(2, 2), result{32, 32, 32, 10, -1}, -1},
		{mode.Mode{}, result{}, -1}, {mode.Mode{}, result{1}, -1}, {at(3, 1), result{1, 1, 1, 1, 1}, -1},
		{at(2, 3), result{}, -1}, {at(2, 0), result{1}, -1},
	} {
		mustTotal(t, count.New(), c.m, c.k, c.want)
	}
}

// Pulses that there may not be, in a band that is there and in one that isn't,
// whatever the others have.
func TestTotalOutside(t *testing.T) {
	for _, m := range modes {
		for band := range api.MaxBands {
			for _, others := range []result{{}, {1, 1, 1, 1, 1}, most} {
				for _, pulses := range append([]int{most[band] + 1}, never...) {
					k := ofMode(m, others)
					k[band] = pulses
					mustTotal(t, count.New(), m, k, refused)
				}
			}
		}
		for band := 3 + m.Size; band < api.MaxBands; band++ {
			for pulses := 1; pulses <= 33; pulses++ {
				k := result{}
				k[band] = pulses
				mustTotal(t, count.New(), m, k, refused)
			}
		}
	}
	for _, m := range wrong {
		for _, k := range []result{{}, {1}, {0, 0, 0, 0, 1}, {-1}, {33}, most, {1, 1, 1, 1, 1}} {
			mustTotal(t, count.New(), m, k, refused)
		}
	}
}

// chance gives numbers below a bound, always the same ones.
type chance uint64

func (c *chance) next(below int) int {
	*c = *c*6364136223846793005 + 1442695040888963407
	return int(*c>>33) % below
}

// Pulses by chance, inside and a little outside, by the chapter's words.
func TestTotalByTheWords(t *testing.T) {
	c := chance(1)
	for _, b := range books() {
		for range 3000 {
			m, k := modes[c.next(len(modes))], result{}
			for band := range 3 + m.Size {
				k[band] = c.next(most[band] + 1)
			}
			if band := c.next(api.MaxBands); c.next(4) == 0 {
				k[band] = c.next(36) - 2
			}
			mustTotal(t, b, m, k, wantTotal(m, k))
		}
	}
}

// noted are how many pairs are noted in a book.
func noted(b *count.Book) int {
	notes := 0
	for n := range 20 {
		for k := range 40 {
			if b.Has(count.Pair{N: n, K: k}) {
				notes++
			}
		}
	}
	return notes
}

// What is refused notes nothing, in a new book and in one with some notes, and
// whatever bands stand ahead of that which is wrong.
func TestRefusedNotesNothing(t *testing.T) {
	for _, has := range []count.Pair{{}, {N: 2, K: 1}, {N: 2, K: 32}, {N: 4, K: 7}, {N: 8, K: 10}, {N: 16, K: 1}} {
		b := count.New()
		b.V(has.N, has.K)
		was := noted(b)
		for _, m := range append(slices.Clone(wrong), modes...) {
			for band := range api.MaxBands {
				for _, pulses := range append([]int{most[band] + 1}, never...) {
					k := ofMode(mode.Mode{Size: min(max(m.Size, 0), 2)}, most)
					k[band] = pulses
					mustTotal(t, b, m, k, refused)
				}
			}
		}
		for _, m := range wrong {
			mustTotal(t, b, m, most, refused)
			mustAlloc(t, b, m, 3, 100, result{})
		}
		if now := noted(b); now != was {
			t.Errorf("%v: %d notes, not %d", has, now, was)
		}
	}
}

// The literal orders: each budget gets those pulses at the front which it pays
// for, and what a budget of the cost of any of them gets is that one, too.
func TestOrders(t *testing.T) {
	for _, m := range modes {
		for trim, order := range orders[m.Size] {
			var to []int
			for _, digit := range order {
				to = append(to, int(digit-'0'))
			}
			s := shareOut(m, to)
			if last := len(to); s.given[last] != ofMode(m, most) || s.costs[last] != whole[m] {
				t.Fatalf("%v: %v, %d", m, s.given[last], s.costs[last])
			}
			b := count.New()
			for _, budget := range s.costs {
				mustAlloc(t, b, m, trim, budget, s.of(budget))
				mustAlloc(t, b, m, trim, budget-1, s.of(budget-1))
			}
		}
	}
}

func TestAllocRows(t *testing.T) {
	for _, c := range []struct {
		m            mode.Mode
		trim, budget int
		want         result
	}{
		{at(0, 1), 0, 2, result{}}, {at(0, 1), 0, 3, result{1}},
		{at(0, 1), 0, 6, result{1}}, {at(0, 1), 0, 7, result{1, 0, 1}},
		{at(0, 1), 0, 25, result{10, 8, 9}}, {at(0, 1), 3, 25, result{8, 7, 11}},
		{at(0, 1), 7, 25, result{6, 6, 11}}, {at(0, 1), 7, 34, result{32, 32, 32}},
		{at(0, 2), 0, 12, result{1}}, {at(0, 2), 3, 12, result{0, 0, 1}},
		{at(0, 2), 7, 60, result{13, 13, 23}}, {at(1, 1), 0, 40, result{7, 5, 7, 6}},
		{at(1, 1), 3, 40, result{5, 4, 7, 7}}, {at(1, 1), 7, 40, result{3, 3, 5, 9}},
		{at(1, 2), 3, 100, result{15, 13, 18, 10}}, {at(1, 2), 7, 60, result{2, 1, 3, 5}},
		{at(2, 1), 0, 40, result{3, 2, 3, 2, 2}}, {at(2, 1), 3, 60, result{4, 3, 5, 6, 5}},
		{at(2, 1), 7, 60, result{2, 1, 3, 5, 7}}, {at(2, 2), 0, 100, result{4, 3, 4, 4, 3}},
		{at(2, 2), 3, 150, result{6, 5, 8, 9, 8}}, {at(2, 2), 7, 12, result{}},
		{at(2, 2), 7, 150, result{3, 3, 5, 9, 10}}, {at(2, 2), 7, 180, result{32, 32, 32, 10, 10}},
		// The trims that are outside do as the nearest one inside.
		{at(2, 1), -1, 40, result{3, 2, 3, 2, 2}}, {at(2, 1), math.MinInt, 40, result{3, 2, 3, 2, 2}},
		{at(2, 1), 8, 60, result{2, 1, 3, 5, 7}}, {at(2, 1), math.MaxInt, 60, result{2, 1, 3, 5, 7}},
		{mode.Mode{}, 0, 100, result{}}, {at(3, 1), 0, math.MaxInt, result{}},
	} {
		mustAlloc(t, count.New(), c.m, c.trim, c.budget, c.want)
	}
}

// What the first pulse costs as literals, and the budgets about it.
func TestFirstPulse(t *testing.T) {
	for _, c := range []struct{ size, trim, band, each int }{
		{0, 0, 0, 3}, {0, 1, 2, 4}, {0, 7, 2, 4}, {1, 0, 0, 3}, {1, 1, 3, 5}, {1, 7, 3, 5},
		{2, 0, 0, 3}, {2, 1, 3, 5}, {2, 4, 3, 5}, {2, 5, 4, 7}, {2, 7, 4, 7},
	} {
		for chans := 1; chans <= 2; chans++ {
			m, first := at(c.size, chans), result{}
			first[c.band] = 1
			for _, budget := range []int{math.MinInt, -1, 0, 1, c.each*chans - 1} {
				mustAlloc(t, count.New(), m, c.trim, budget, result{})
			}
			mustAlloc(t, count.New(), m, c.trim, c.each*chans, first)
		}
	}
}

// Every mode, trim and budget by the chapter's words.
func TestByTheWords(t *testing.T) {
	b := count.New()
	for _, m := range modes {
		for _, trim := range trims {
			s := wantShare(m, trim)
			for _, budget := range budgets(m) {
				mustAlloc(t, b, m, trim, budget, s.of(budget))
			}
		}
	}
}

// Any book tells the same, and one that is asked the first time, too.
func TestAnyBook(t *testing.T) {
	for _, b := range books() {
		for _, m := range modes {
			for trim := range 8 {
				s := wantShare(m, trim)
				for budget := -1; budget <= whole[m]; budget += 7 {
					mustAlloc(t, b, m, trim, budget, s.of(budget))
					mustAlloc(t, count.New(), m, trim, budget, s.of(budget))
				}
			}
		}
	}
}

// All pulses, by just what they cost, by more, and by as much as there is.
func TestAllPulses(t *testing.T) {
	b := count.New()
	for _, m := range modes {
		for _, trim := range trims {
			for _, budget := range []int{whole[m], whole[m] + 1, 1 << 32, math.MaxInt} {
				mustAlloc(t, b, m, trim, budget, ofMode(m, most))
			}
		}
	}
}

func TestWrongModes(t *testing.T) {
	for _, m := range wrong {
		for _, trim := range trims {
			for _, budget := range []int{math.MinInt, -1, 0, 1, 60, 1000, math.MaxInt} {
				mustAlloc(t, count.New(), m, trim, budget, result{})
			}
		}
	}
}

// nextOf is the next pulse by its level that there may be, as Slope and Cap
// tell it.
func nextOf(b *count.Book, m mode.Mode, trim int, k result) (pulse, bool) {
	var l []pulse
	for band := range m.Bands() {
		if k[band] < cost.Cap(b, m.Width(band)) {
			l = append(l, pulse{(k[band] + 1) * alloc.Slope(m, trim, band), band})
		}
	}
	if len(l) == 0 {
		return pulse{}, false
	}
	return slices.MinFunc(l, func(a, b pulse) int { return cmp.Compare(a.level, b.level) }), true
}

// What is given costs no more than the budget, and with the next pulse by its
// level it would cost more, or there is none.
func TestNoMoreThanTheBudget(t *testing.T) {
	b := count.New()
	for _, m := range modes {
		for trim := range 8 {
			for _, budget := range budgets(m) {
				k := alloc.Alloc(b, m, trim, budget)
				if total := alloc.Total(b, m, k); total < 0 || total > max(budget, 0) {
					t.Fatalf("Alloc(%v, %d, %d): %v costs %d", m, trim, budget, k, total)
				}
				p, found := nextOf(b, m, trim, k)
				if !found {
					continue
				}
				more := k
				more[p.band]++
				if total := alloc.Total(b, m, more); total <= budget {
					t.Fatalf("Alloc(%v, %d, %d): %v, though %v costs %d", m, trim, budget, k, more, total)
				}
			}
		}
	}
}

// With more to share out no band gets less.
func TestMoreIsNeverLess(t *testing.T) {
	b := count.New()
	for _, m := range modes {
		for _, trim := range trims {
			was := result{}
			l := budgets(m)
			slices.Sort(l)
			for _, budget := range l {
				k := alloc.Alloc(b, m, trim, budget)
				for band, pulses := range k {
					if pulses < was[band] {
						t.Fatalf("Alloc(%v, %d, %d): %v, behind %v", m, trim, budget, k, was)
					}
				}
				was = k
			}
		}
	}
}

// Of several pulses of the same level the lowest band's goes first: no band
// has one while a lower one lacks its own of that level, and for bands that
// tie there is a budget which only the lower one's gets something of.
func TestLowestBandFirst(t *testing.T) {
	b := count.New()
	ties, parted := 0, 0
	for _, m := range modes {
		for trim := range 8 {
			l := inOrder(m, trim)
			for i, p := range l[1:] {
				if p.level != l[i].level {
					continue
				}
				ties++
				seen := 0
				for budget := range whole[m] + 1 {
					k := alloc.Alloc(b, m, trim, budget)
					low := k[l[i].band]*alloc.Slope(m, trim, l[i].band) >= p.level
					high := k[p.band]*alloc.Slope(m, trim, p.band) >= p.level
					if high && !low {
						t.Fatalf("Alloc(%v, %d, %d): %v: %d has what %d hasn't", m, trim, budget, k, p.band, l[i].band)
					}
					if low && !high {
						seen = 1
					}
				}
				parted += seen
			}
		}
	}
	if ties < 100 || parted < 30 {
		t.Error(ties, parted)
	}
}

// A tie as literals: at trim 0 bands 0, 2 and 3 have the same slope.
func TestTieRows(t *testing.T) {
	m := at(1, 1)
	for i, want := range []result{
		{}, {}, {}, {1}, {1}, {1}, {1}, {1, 0, 1}, {1, 0, 1}, {1, 0, 1}, {1, 0, 1}, {1, 0, 1},
		{1, 0, 1, 1}, {1, 0, 1, 1}, {1, 0, 1, 1}, {1, 1, 1, 1}, {2, 1, 1, 1}, {2, 1, 1, 1}, {2, 1, 2, 1},
	} {
		mustAlloc(t, count.New(), m, 0, i, want)
	}
}

// Again and again, in orders that jump about, others asked between: the same,
// and of a book of its own too.
func TestAgainAndAgain(t *testing.T) {
	c := chance(7)
	shares := make(map[mode.Mode][8]share)
	for _, m := range modes {
		var l [8]share
		for trim := range l {
			l[trim] = wantShare(m, trim)
		}
		shares[m] = l
	}
	b := count.New()
	for range 10000 {
		m, trim := modes[c.next(len(modes))], trims[c.next(len(trims))]
		l := budgets(m)
		budget := l[c.next(len(l))]
		want := shares[m][held(trim)].of(budget)
		mustAlloc(t, b, m, trim, budget, want)
		switch c.next(20) {
		case 0:
			mustAlloc(t, count.New(), m, trim, budget, want)
		case 1:
			b.Row(c.next(17), c.next(33))
		case 2:
			mustAlloc(t, b, wrong[c.next(len(wrong))], trim, budget, result{})
		case 3:
			mustTotal(t, b, m, want, wantTotal(m, want))
		case 4:
			mustTotal(t, b, m, result{-1}, refused)
		}
	}
}

// What is handed in, and what was answered, stays as it was.
func TestResultsAreCopies(t *testing.T) {
	b, m := count.New(), at(2, 1)
	k := alloc.Alloc(b, m, 3, 60)
	was := k
	k[0], k[4] = 9, 9
	mustAlloc(t, b, m, 3, 60, was)
	k = was
	alloc.Total(b, m, k)
	alloc.Alloc(b, m, 3, 90)
	if k != was {
		t.Error(k)
	}
}

// A book that worked for all of it counts as ever.
func TestBookStaysRight(t *testing.T) {
	for what, b := range books() {
		for _, m := range modes {
			alloc.Alloc(b, m, 3, math.MaxInt)
		}
		tab := table.New()
		for n := range 18 {
			for k := range 34 {
				if x, y := b.V(n, k), tab.V(n, k); x != y {
					t.Errorf("%s book: V(%d, %d): %d, not %d", what, n, k, x, y)
				}
			}
		}
	}
}
