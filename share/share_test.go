package share_test

import (
	"cmp"
	"maps"
	"math"
	"slices"
	"testing"

	"spinet/alloc"
	"spinet/api"
	"spinet/cost"
	"spinet/count"
	"spinet/mode"
	"spinet/share"
	"spinet/table"
)

// result is how many pulses each band gets.
type result = [api.MaxBands]int

// at is the mode of a size and channels, right or not.
func at(size, chans int) mode.Mode { return mode.Mode{Size: size, Chans: chans} }

// modes are all that are right, wrong are some that aren't.
var (
	modes = []mode.Mode{at(0, 1), at(0, 2), at(1, 1), at(1, 2), at(2, 1), at(2, 2)}
	wrong = []mode.Mode{
		at(0, 0), at(1, 0), at(2, 0), at(0, 3), at(1, 3), at(2, 3), at(0, -1), at(2, -1), at(-1, 1), at(-1, 2), at(3, 1), at(3, 2), at(-1, 0),
		at(8, 1), at(9, 0), at(16, 2), at(32, 1), at(1<<32, 1), at(1, 1<<32+1), at(1<<32+2, 2),
		at(math.MaxInt, 1), at(math.MinInt, 2), at(0, math.MaxInt), at(2, math.MinInt),
		at(math.MaxInt, math.MaxInt), at(math.MinInt, math.MinInt),
	}
)

// trims are inside and outside.
var trims = []int{
	math.MinInt, math.MinInt + 1, -1 << 32, -8, -2, -1, 0, 1, 2, 3, 4, 5, 6, 7, 8, 9, 15, 16,
	1 << 32, 1<<32 + 3, math.MaxInt - 1, math.MaxInt,
}

// wide are how wide the bands are, most how many pulses they may have.
var (
	wide = [api.MaxBands]int{2, 2, 4, 8, 16}
	most = result{32, 32, 32, 10, 10}
)

// whole is what all pulses of a mode cost that there may be.
var whole = map[mode.Mode]int{at(0, 1): 34, at(0, 2): 68, at(1, 1): 55, at(1, 2): 110, at(2, 1): 90, at(2, 2): 180}

// costs are what pulses cost as literals, by how wide the band is.
var costs = map[int][]int{
	2:  {0, 3, 4, 5, 5, 6, 6, 6, 6, 7, 7, 7, 7, 7, 7, 7, 7, 8, 8, 8, 8, 8, 8, 8, 8, 8, 8, 8, 8, 8, 8, 8, 8},
	4:  {0, 4, 6, 8, 9, 10, 11, 11, 12, 12, 13, 13, 14, 14, 14, 15, 15, 15, 15, 16, 16, 16, 16, 16, 17, 17, 17, 17, 17, 17, 18, 18, 18},
	8:  {0, 5, 8, 11, 13, 15, 16, 18, 19, 20, 21},
	16: {0, 7, 13, 16, 20, 23, 26, 28, 31, 33, 35},
}

// held is a trim within its bounds.
func held(trim int) int { return min(max(trim, 0), 7) }

// ofMode is what of some pulses a mode's bands may have.
func ofMode(m mode.Mode, k result) result {
	clear(k[3+m.Size:])
	return k
}

// pulse is one that may be given.
type pulse struct{ level, band int }

// inOrder are all pulses of a mode by layer 14's words: the one with the least
// level first, of several that of the lowest band.
func inOrder(m mode.Mode, trim int) []pulse {
	var l []pulse
	for band := range 3 + m.Size {
		slope := 64/wide[band] + (8-held(trim))*band
		for p := 1; p <= most[band]; p++ {
			l = append(l, pulse{p * slope, band})
		}
	}
	slices.SortFunc(l, func(a, b pulse) int {
		return cmp.Or(cmp.Compare(a.level, b.level), cmp.Compare(a.band, b.band))
	})
	return l
}

// steps are what is given pulse by pulse, and what it costs each time.
type steps struct {
	given []result
	costs []int
}

// stepByStep gives all pulses of a mode by layer 14's words.
func stepByStep(m mode.Mode, trim int) steps {
	s := steps{given: []result{{}}, costs: []int{0}}
	k := result{}
	for _, p := range inOrder(m, trim) {
		k[p.band]++
		sum := 0
		for band, pulses := range k {
			sum += costs[wide[band]][pulses] * m.Chans
		}
		s.given = append(s.given, k)
		s.costs = append(s.costs, sum)
	}
	return s
}

// of is what a budget gets: all ahead of the first pulse that costs too much.
func (s steps) of(budget int) result {
	k := result{}
	for i, given := range s.given {
		if s.costs[i] > budget {
			break
		}
		k = given
	}
	return k
}

// allSteps are those of every mode and trim.
func allSteps() map[mode.Mode][8]steps {
	all := make(map[mode.Mode][8]steps)
	for _, m := range modes {
		var l [8]steps
		for trim := range l {
			l[trim] = stepByStep(m, trim)
		}
		all[m] = l
	}
	return all
}

// budgets are all from below 0 to beyond what all pulses of a mode cost, and
// some that are far outside.
func budgets(m mode.Mode) []int {
	l := []int{math.MinInt, math.MinInt + 1, -1 << 32, -1<<32 + 60, -1000}
	for budget := -10; budget <= whole[m]+10; budget++ {
		l = append(l, budget)
	}
	return append(l, 1000, 1<<20, 1<<31, 1<<32, 1<<32+3, math.MaxInt-1, math.MaxInt)
}

func newShare() *share.Share { return share.New(cost.New(table.New())) }

func mustAlloc(t *testing.T, s *share.Share, m mode.Mode, trim, budget int, want result) {
	t.Helper()
	if k := s.Alloc(m, trim, budget); k != want {
		t.Fatalf("Alloc(%v, %d, %d): %v, not %v", m, trim, budget, k, want)
	}
}

func mustMost(t *testing.T, l share.Log, want result, times int) {
	t.Helper()
	if k, n := l.Most(); k != want || n != times {
		t.Fatalf("Most of %v: %v, %d, not %v, %d", l, k, n, want, times)
	}
}

// The chapter's example, and that of layer 14.
func TestExamples(t *testing.T) {
	a, b := result{1, 2, 3}, result{4}
	l := share.Log{}
	l.Add(a, b, a)
	mustMost(t, l, a, 2)
	m, _ := mode.Of(8, 1)
	mustAlloc(t, newShare(), m, 7, 3, result{})
	mustAlloc(t, newShare(), m, 7, 4, result{0, 0, 1})
}

// Every mode, right or not, every trim and every budget: as layer 14's.
func TestAllocIsLayer14(t *testing.T) {
	s, b := newShare(), count.New()
	for _, m := range modes {
		for _, trim := range trims {
			for _, budget := range budgets(m) {
				mustAlloc(t, s, m, trim, budget, alloc.Alloc(b, m, trim, budget))
			}
		}
	}
	for _, m := range wrong {
		for _, trim := range trims {
			for _, budget := range budgets(at(2, 2)) {
				mustAlloc(t, s, m, trim, budget, alloc.Alloc(b, m, trim, budget))
			}
		}
	}
}

// Every mode, trim and budget by layer 14's words.
func TestByTheWords(t *testing.T) {
	s := newShare()
	for m, l := range allSteps() {
		for _, trim := range trims {
			for _, budget := range budgets(m) {
				mustAlloc(t, s, m, trim, budget, l[held(trim)].of(budget))
			}
		}
	}
}

// Just what each next pulse brings it to, and one less: what is given by the
// one is more than what is given by the other.
func TestEachPulse(t *testing.T) {
	s := newShare()
	for m, l := range allSteps() {
		for _, trim := range trims {
			steps, was := l[held(trim)], 0
			for _, sum := range steps.costs {
				less := s.Alloc(m, trim, sum-1)
				mustAlloc(t, s, m, trim, sum-1, steps.of(sum-1))
				mustAlloc(t, s, m, trim, sum, steps.of(sum))
				if sum > was && s.Alloc(m, trim, sum) == less {
					t.Fatalf("Alloc(%v, %d, %d): %v, as with one less", m, trim, sum, less)
				}
				was = sum
			}
		}
	}
}

func TestAllocRows(t *testing.T) {
	for _, c := range []struct {
		m            mode.Mode
		trim, budget int
		want         result
	}{
		{at(0, 1), 0, 2, result{}}, {at(0, 1), 0, 3, result{1}},
		{at(0, 1), 0, 6, result{1}}, {at(0, 1), 0, 7, result{1, 0, 1}},
		{at(0, 1), 0, 25, result{10, 8, 9}}, {at(0, 1), 3, 25, result{8, 7, 11}},
		{at(0, 1), 7, 25, result{6, 6, 11}}, {at(0, 1), 7, 34, result{32, 32, 32}},
		{at(0, 2), 0, 12, result{1}}, {at(0, 2), 3, 12, result{0, 0, 1}},
		{at(0, 2), 7, 60, result{13, 13, 23}}, {at(1, 1), 0, 40, result{7, 5, 7, 6}},
		{at(1, 1), 3, 40, result{5, 4, 7, 7}}, {at(1, 1), 7, 40, result{3, 3, 5, 9}},
		{at(1, 2), 3, 100, result{15, 13, 18, 10}}, {at(1, 2), 7, 60, result{2, 1, 3, 5}},
		{at(2, 1), 0, 40, result{3, 2, 3, 2, 2}}, {at(2, 1), 3, 60, result{4, 3, 5, 6, 5}},
		{at(2, 1), 7, 60, result{2, 1, 3, 5, 7}}, {at(2, 2), 0, 100, result{4, 3, 4, 4, 3}},
		{at(2, 2), 3, 150, result{6, 5, 8, 9, 8}}, {at(2, 2), 7, 12, result{}},
		{at(2, 2), 7, 150, result{3, 3, 5, 9, 10}}, {at(2, 2), 7, 180, result{32, 32, 32, 10, 10}},
		// One less than all pulses cost: the 17th one of band 1, at level 561, is
		// the last that would cost more.
		{at(2, 2), 7, 179, result{17, 16, 31, 10, 10}},
		// The trims that are outside do as the nearest one inside.
		{at(2, 1), -1, 40, result{3, 2, 3, 2, 2}}, {at(2, 1), math.MinInt, 40, result{3, 2, 3, 2, 2}},
		{at(2, 1), 8, 60, result{2, 1, 3, 5, 7}}, {at(2, 1), math.MaxInt, 60, result{2, 1, 3, 5, 7}},
		{mode.Mode{}, 0, 100, result{}}, {at(3, 1), 0, math.MaxInt, result{}},
	} {
		mustAlloc(t, newShare(), c.m, c.trim, c.budget, c.want)
	}
}

// What the first pulse costs as literals, and the budgets about it.
func TestFirstPulse(t *testing.T) {
	for _, c := range []struct{ size, trim, band, each int }{
		{0, 0, 0, 3}, {0, 1, 2, 4}, {0, 7, 2, 4}, {1, 0, 0, 3}, {1, 1, 3, 5}, {1, 7, 3, 5},
		{2, 0, 0, 3}, {2, 1, 3, 5}, {2, 4, 3, 5}, {2, 5, 4, 7}, {2, 7, 4, 7},
	} {
		for chans := 1; chans <= 2; chans++ {
			m, first := at(c.size, chans), result{}
			first[c.band] = 1
			for _, budget := range []int{math.MinInt, -1, 0, 1, c.each*chans - 1} {
				mustAlloc(t, newShare(), m, c.trim, budget, result{})
			}
			mustAlloc(t, newShare(), m, c.trim, c.each*chans, first)
		}
	}
}

// Ties as literals: at trim 0 bands 0, 2 and 3 have the same slope, and the
// lowest one's pulse is given first.
func TestTieRows(t *testing.T) {
	m, s := at(1, 1), newShare()
	for i, want := range []result{
		{}, {}, {}, {1}, {1}, {1}, {1}, {1, 0, 1}, {1, 0, 1}, {1, 0, 1}, {1, 0, 1}, {1, 0, 1},
		{1, 0, 1, 1}, {1, 0, 1, 1}, {1, 0, 1, 1}, {1, 1, 1, 1}, {2, 1, 1, 1}, {2, 1, 1, 1}, {2, 1, 2, 1},
	} {
		mustAlloc(t, s, m, 0, i, want)
	}
}

// All pulses, by just what they cost, by more, and by as much as there is.
func TestAllPulses(t *testing.T) {
	s := newShare()
	for _, m := range modes {
		for _, trim := range trims {
			for _, budget := range []int{whole[m], whole[m] + 1, 1 << 32, math.MaxInt} {
				mustAlloc(t, s, m, trim, budget, ofMode(m, most))
			}
			if k := s.Alloc(m, trim, whole[m]-1); k == ofMode(m, most) {
				t.Errorf("Alloc(%v, %d, %d): all pulses", m, trim, whole[m]-1)
			}
		}
	}
}

func TestWrongModes(t *testing.T) {
	s := newShare()
	for _, m := range wrong {
		for _, trim := range trims {
			for _, budget := range []int{math.MinInt, -1, 0, 1, 60, 1000, math.MaxInt} {
				mustAlloc(t, s, m, trim, budget, result{})
			}
		}
	}
}

// With more to share out no band gets less, and what is given costs no more
// than the budget.
func TestMoreIsNeverLess(t *testing.T) {
	s, b := newShare(), count.New()
	for _, m := range modes {
		for _, trim := range trims {
			was := result{}
			for _, budget := range budgets(m) {
				k := s.Alloc(m, trim, budget)
				for band, pulses := range k {
					if pulses < was[band] {
						t.Fatalf("Alloc(%v, %d, %d): %v, behind %v", m, trim, budget, k, was)
					}
				}
				if total := alloc.Total(b, m, k); total < 0 || total > max(budget, 0) {
					t.Fatalf("Alloc(%v, %d, %d): %v costs %d", m, trim, budget, k, total)
				}
				was = k
			}
		}
	}
}

// chance gives numbers below a bound, always the same ones.
type chance uint64

func (c *chance) next(below int) int {
	*c = *c*6364136223846793005 + 1442695040888963407
	return int(*c>>33) % below
}

// Again and again, in orders that jump about, wrong modes and questions to the
// sheet between: the same, of this share, of another one by the same sheet, and
// of one of its own.
func TestAgainAndAgain(t *testing.T) {
	c, all := chance(7), allSteps()
	sheet := cost.New(table.New())
	shares := []*share.Share{share.New(sheet), share.New(sheet), {Sheet: sheet}}
	for range 20000 {
		m, trim := modes[c.next(len(modes))], trims[c.next(len(trims))]
		l := budgets(m)
		budget := l[c.next(len(l))]
		want := all[m][held(trim)].of(budget)
		s := shares[c.next(len(shares))]
		mustAlloc(t, s, m, trim, budget, want)
		mustAlloc(t, s, m, trim, budget, want)
		switch c.next(20) {
		case 0:
			mustAlloc(t, newShare(), m, trim, budget, want)
		case 1:
			mustAlloc(t, s, wrong[c.next(len(wrong))], trim, budget, result{})
		case 2:
			s.Bits(c.next(20)-2, c.next(40)-4)
		case 3:
			s.Cap(c.next(20) - 2)
		}
	}
}

// What was answered stays as it was, and what is done to it isn't seen.
func TestResultsAreCopies(t *testing.T) {
	s, m := newShare(), at(2, 1)
	k := s.Alloc(m, 3, 60)
	was := k
	s.Alloc(m, 3, 90)
	if k != was {
		t.Error(k)
	}
	k[0], k[4] = 9, 9
	mustAlloc(t, s, m, 3, 60, was)
}

// A share has its sheet, and tells what that tells, ahead of sharing out and
// behind it.
func TestShareHasItsSheet(t *testing.T) {
	sheet, other := cost.New(table.New()), cost.New(table.New())
	s := share.New(sheet)
	if s.Sheet != sheet {
		t.Error("another sheet")
	}
	for range 2 {
		for n := -2; n < 20; n++ {
			if x := s.Cap(n); x != sheet.Cap(n) || x != other.Cap(n) {
				t.Errorf("Cap(%d): %d, not %d", n, x, other.Cap(n))
			}
			for k := -2; k < 36; k++ {
				if x := s.Bits(n, k); x != sheet.Bits(n, k) || x != other.Bits(n, k) {
					t.Errorf("Bits(%d, %d): %d, not %d", n, k, x, other.Bits(n, k))
				}
			}
		}
		for _, m := range modes {
			s.Alloc(m, 3, math.MaxInt)
			s.Alloc(m, 0, 17)
		}
	}
	if *sheet != *other {
		t.Error("the sheet was written into")
	}
}

func TestShareHasItsSheetRows(t *testing.T) {
	s := newShare()
	for _, c := range []struct{ n, k, cap, bits int }{
		{2, 3, 32, 5}, {4, 32, 32, 18}, {8, 10, 10, 21}, {8, 11, 10, -1}, {16, 10, 10, 35}, {16, 0, 10, 0},
		{0, 0, -1, -1}, {17, 0, -1, -1}, {2, -1, 32, -1}, {2, 33, 32, -1},
	} {
		if x, y := s.Cap(c.n), s.Bits(c.n, c.k); x != c.cap || y != c.bits {
			t.Errorf("Cap(%d), Bits(%d, %d): %d, %d, not %d, %d", c.n, c.n, c.k, x, y, c.cap, c.bits)
		}
	}
}

// A sheet on which nothing stands lets no band have a pulse.
func TestEmptySheet(t *testing.T) {
	s := share.New(&cost.Sheet{})
	for _, m := range slices.Concat(modes, wrong) {
		for _, trim := range trims {
			for _, budget := range []int{math.MinInt, -1, 0, 1, 100, math.MaxInt} {
				mustAlloc(t, s, m, trim, budget, result{})
			}
		}
	}
}

func TestAllocNeedsNoMemory(t *testing.T) {
	s := newShare()
	if need := testing.AllocsPerRun(10, func() { s.Alloc(at(2, 2), 3, 150) }); need != 0 {
		t.Error(need)
	}
}

// logs are what came, with the result that came most often.
var logs = []struct {
	came  []result
	most  result
	times int
}{
	// None, and one.
	{nil, result{}, 0},
	{[]result{}, result{}, 0},
	{[]result{{}}, result{}, 1},
	{[]result{{0, 3}}, result{0, 3}, 1},
	{[]result{{-1, -1, -1, -1, -1}}, result{-1, -1, -1, -1, -1}, 1},
	// The same one often.
	{[]result{{}, {}, {}}, result{}, 3},
	{[]result{{1, 2, 3, 4, 5}, {1, 2, 3, 4, 5}, {1, 2, 3, 4, 5}, {1, 2, 3, 4, 5}}, result{1, 2, 3, 4, 5}, 4},
	{[]result{{-7}, {-7}}, result{-7}, 2},
	// That which came most often, with less pulses than the others have.
	{[]result{{9}, {1}, {1}}, result{1}, 2},
	{[]result{{1}, {9}, {1}}, result{1}, 2},
	{[]result{{}, {32, 32, 32, 10, 10}, {}}, result{}, 2},
	{[]result{{0, 3}, {1}, {1}, {0, 3}, {9}, {0, 3}}, result{0, 3}, 3},
	{[]result{{-9}, {0}, {-9}, {5}, {5}, {-9}}, result{-9}, 3},
	// Several as often as each other, that differ in the first band ..
	{[]result{{0, 3}, {1, 0}}, result{1}, 1},
	{[]result{{1, 9, 9, 9, 9}, {2, 0, 0, 0, 0}}, result{2}, 1},
	{[]result{{0, 3}, {1, 0}, {1, 0}, {0, 3}, {9}}, result{1}, 2},
	{[]result{{-1}, {-2, 9, 9}}, result{-1}, 1},
	{[]result{{-1}, {}}, result{}, 1},
	{[]result{{-5, 1}, {-5, 1}, {-4}, {-4}, {7}}, result{-4}, 2},
	// .. in a later one ..
	{[]result{{1, 2, 9}, {1, 3, 0}}, result{1, 3}, 1},
	{[]result{{1, 2, 3, 9, 9}, {1, 2, 4, 0, 0}}, result{1, 2, 4}, 1},
	{[]result{{1, 2, 3, 5, 0}, {1, 2, 3, 4, 9}, {1, 2, 3, 3, 10}}, result{1, 2, 3, 5}, 1},
	{[]result{{0, -1}, {0, -2, 9}}, result{0, -1}, 1},
	// .. in the last one alone.
	{[]result{{1, 2, 3, 4, 5}, {1, 2, 3, 4, 6}}, result{1, 2, 3, 4, 6}, 1},
	{[]result{{0, 0, 0, 0, -1}, {0, 0, 0, 0, -2}}, result{0, 0, 0, 0, -1}, 1},
	{[]result{{0, 0, 0, 0, -1}, {}}, result{}, 1},
	{[]result{{}, {0, 0, 0, 0, 1}}, result{0, 0, 0, 0, 1}, 1},
	{[]result{{3, 3, 3, 3, 1}, {3, 3, 3, 3, 2}, {3, 3, 3, 3, 2}, {3, 3, 3, 3, 1}, {3, 3, 3, 3, 3}}, result{3, 3, 3, 3, 2}, 2},
	// Numbers from one end to the other.
	{[]result{{math.MaxInt}, {math.MinInt}}, result{math.MaxInt}, 1},
	{[]result{{math.MinInt}, {1}, {math.MinInt, 1}}, result{1}, 1},
	{[]result{{0, math.MinInt}, {0, math.MaxInt}, {0, -1}}, result{0, math.MaxInt}, 1},
	{[]result{{0, 0, 0, 0, math.MinInt}, {0, 0, 0, 0, math.MinInt + 1}}, result{0, 0, 0, 0, math.MinInt + 1}, 1},
	{[]result{{math.MinInt, math.MinInt, math.MinInt, math.MinInt, math.MinInt}}, result{math.MinInt, math.MinInt, math.MinInt, math.MinInt, math.MinInt}, 1},
	{[]result{{1 << 32}, {1}, {1<<32 + 1}}, result{1<<32 + 1}, 1},
}

// counted is how often each result is in a list.
func counted(l []result) share.Log {
	times := share.Log{}
	for _, k := range l {
		n := 0
		for _, other := range l {
			if other == k {
				n++
			}
		}
		times[k] = n
	}
	return times
}

// mustBe holds a log to the list of what came.
func mustBe(t *testing.T, l share.Log, came []result) {
	t.Helper()
	if want := counted(came); !maps.Equal(l, want) {
		t.Fatalf("%v: %v, not %v", came, l, want)
	}
}

// All at once, one by one, the last one first, and with Add of none between.
func TestLogRows(t *testing.T) {
	for _, c := range logs {
		atOnce, each, back := share.Log{}, share.Log{}, make(share.Log)
		atOnce.Add(c.came...)
		for i, k := range c.came {
			each.Add(k)
			each.Add()
			each.Add([]result{}...)
			back.Add(c.came[len(c.came)-1-i])
		}
		for _, l := range []share.Log{atOnce, each, back} {
			mustBe(t, l, c.came)
			mustMost(t, l, c.most, c.times)
			mustMost(t, l, c.most, c.times)
			mustBe(t, l, c.came)
		}
	}
}

func TestAddOfNone(t *testing.T) {
	l := share.Log{}
	l.Add()
	l.Add(nil...)
	l.Add([]result{}...)
	if len(l) != 0 {
		t.Error(l)
	}
	mustMost(t, l, result{}, 0)
}

// What came adds up over any number of calls, and Most follows it.
func TestLogByAndBy(t *testing.T) {
	a, b, c := result{1}, result{1, 0, 0, 0, 1}, result{0, 32}
	l := share.Log{}
	for _, s := range []struct {
		came  []result
		most  result
		times int
	}{
		{nil, result{}, 0},
		{[]result{a}, a, 1},
		{[]result{c}, a, 1},
		{[]result{c}, c, 2},
		{[]result{b, b}, b, 2},
		{[]result{a, c}, c, 3},
		{nil, c, 3},
		{[]result{a, a, a}, a, 5},
		{[]result{b, b, b}, b, 5},
		{[]result{c, c, c}, c, 6},
		{[]result{a}, a, 6},
		{[]result{b}, b, 6},
	} {
		l.Add(s.came...)
		mustMost(t, l, s.most, s.times)
	}
	if len(l) != 3 || l[a] != 6 || l[b] != 6 || l[c] != 6 {
		t.Error(l)
	}
}

// permuted calls f with every order of a list.
func permuted(l []result, f func([]result)) {
	if len(l) == 0 {
		f(nil)
		return
	}
	for i := range l {
		rest := slices.Delete(slices.Clone(l), i, i+1)
		permuted(rest, func(behind []result) { f(append([]result{l[i]}, behind...)) })
	}
}

// The order in which they came counts for nothing.
func TestAnyOrder(t *testing.T) {
	for _, c := range logs {
		permuted(c.came, func(came []result) {
			l := share.Log{}
			l.Add(came...)
			mustBe(t, l, c.came)
			mustMost(t, l, c.most, c.times)
		})
	}
}

// wantMost takes of a list that which nothing else beats.
func wantMost(l []result) (result, int) {
	most, often := result{}, 0
	for k, times := range counted(l) {
		ahead := false
		for band := range k {
			if k[band] != most[band] {
				ahead = k[band] > most[band]
				break
			}
		}
		if times > often || times == often && ahead {
			most, often = k, times
		}
	}
	return most, often
}

// Lists by chance, of results that are near each other, cut anywhere.
func TestLogByChance(t *testing.T) {
	c := chance(3)
	for range 2000 {
		var came []result
		l := share.Log{}
		for range c.next(6) {
			var now []result
			for range c.next(5) {
				k := result{}
				for band := range k {
					k[band] = c.next(8)/6 - c.next(8)/7
				}
				now = append(now, k)
			}
			l.Add(now...)
			came = append(came, now...)
		}
		mustBe(t, l, came)
		k, n := wantMost(came)
		for range 3 {
			mustMost(t, l, k, n)
		}
	}
}

// Many results, all as often as each other: always the same one is told.
func TestLogOfMany(t *testing.T) {
	l := share.Log{}
	var came []result
	for i := range 1000 {
		came = append(came, result{i % 3, i % 5, i % 7, i / 105, -i})
	}
	l.Add(came...)
	l.Add(came...)
	if len(l) != 1000 {
		t.Error(len(l))
	}
	k, n := wantMost(append(came, came...))
	for range 20 {
		mustMost(t, l, k, n)
	}
}

// What a share answers is a result as it is.
func TestLogOfShares(t *testing.T) {
	s, l := newShare(), share.Log{}
	for budget := range 8 {
		l.Add(s.Alloc(at(0, 1), 0, budget))
	}
	mustMost(t, l, result{1}, 4)
	if len(l) != 3 || l[result{}] != 3 || l[result{1, 0, 1}] != 1 {
		t.Error(l)
	}
}

func TestAddKeepsNoList(t *testing.T) {
	came := []result{{1}, {2}, {2}}
	was := slices.Clone(came)
	l := share.Log{}
	l.Add(came...)
	if !slices.Equal(came, was) {
		t.Error(was, "became", came)
	}
	clear(came)
	mustBe(t, l, was)
	mustMost(t, l, result{2}, 2)
}

// Most changes nothing of a log, and what is done to its answer isn't seen.
func TestMostIsACopy(t *testing.T) {
	l := share.Log{}
	l.Add(result{1}, result{2})
	k, _ := l.Most()
	k[0] = 9
	mustMost(t, l, result{2}, 1)
	mustBe(t, l, []result{{1}, {2}})
}

// Logs don't share what came.
func TestLogsAreApart(t *testing.T) {
	a, b := share.Log{}, share.Log{}
	a.Add(result{1}, result{1})
	b.Add(result{2})
	mustMost(t, a, result{1}, 2)
	mustMost(t, b, result{2}, 1)
}

// What stands in a log as never having come hasn't come.
func TestNeverCame(t *testing.T) {
	l := share.Log{{9}: 0, {0, 0, 1}: -3}
	mustMost(t, l, result{}, 0)
	l.Add(result{})
	mustMost(t, l, result{}, 1)
}

// A log that isn't there notes nothing.
func TestNoLog(t *testing.T) {
	var l share.Log
	l.Add()
	mustMost(t, l, result{}, 0)
	l.Add(result{1}, result{1})
	mustMost(t, l, result{}, 0)
	if l != nil {
		t.Error(l)
	}
}
