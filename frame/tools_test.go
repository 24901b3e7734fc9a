package frame_test

import (
	"fmt"
	"math"
	"slices"
	"testing"

	"spinet/alloc"
	"spinet/api"
	"spinet/count"
	"spinet/frame"
	"spinet/mode"
	"spinet/reader"
	"spinet/table"
)

// each calls f with tools of either kind.
func (b both) each(f func(tools frame.Tools)) {
	f(b.plain)
	f(b.quick)
}

// The two are tools of two kinds: they tell the same, but not in the same way.
func TestTwoKinds(t *testing.T) {
	b := newBoth()
	if plain, quick := fmt.Sprintf("%T", b.plain), fmt.Sprintf("%T", b.quick); plain == quick {
		t.Error(plain)
	}
}

// sizes are numbers of numbers, or of pulses, inside and outside.
func sizes(most int) []int {
	l := []int{math.MinInt, math.MinInt + 1, -1 << 32, -1<<32 + 2, 1 << 32, 1<<32 + 2, math.MaxInt - 1, math.MaxInt}
	for n := -3; n <= most+3; n++ {
		l = append(l, n)
	}
	return l
}

// V of all numbers and pulses, asked again and again: by the formula, and as
// layer 12's.
func TestV(t *testing.T) {
	layer12 := table.New()
	newBoth().each(func(tools frame.Tools) {
		for range 2 {
			for _, n := range sizes(16) {
				for _, k := range sizes(32) {
					want := uint64(0)
					if n >= 0 && n <= 16 && k >= 0 && k <= 32 {
						want = uint64(vectors(n, k))
					}
					if v := tools.V(n, k); v != want || v != layer12.V(n, k) {
						t.Fatalf("%T: V(%d, %d): %d, not %d", tools, n, k, v, want)
					}
				}
			}
		}
	})
}

func TestVRows(t *testing.T) {
	newBoth().each(func(tools frame.Tools) {
		for _, c := range []struct {
			n, k int
			v    uint64
		}{
			{2, 3, 12}, {3, 2, 18}, {0, 0, 1}, {0, 1, 0}, {16, 0, 1}, {1, 32, 2}, {2, 32, 128}, {4, 32, 87552}, {8, 10, 658048}, {8, 11, 1229360}, {16, 32, 2460955893981184},
			{17, 0, 0}, {-1, 0, 0}, {2, -1, 0}, {2, 33, 0},
		} {
			if v := tools.V(c.n, c.k); v != c.v {
				t.Errorf("%T: V(%d, %d): %d, not %d", tools, c.n, c.k, v, c.v)
			}
		}
	})
}

// filled is a list whose numbers no vector has, with room on both sides.
func filled(n int) (all, x []int) {
	all = make([]int, n+2)
	for i := range all {
		all[i] = 1000 + i
	}
	return all, all[1 : n+1]
}

// mustInto holds Into to layer 12's, in what it answers and in what it writes.
func mustInto(t *testing.T, tools frame.Tools, layer12 *table.Table, n, k int, i uint64) ([]int, bool) {
	t.Helper()
	all, x := filled(n)
	wantAll, want := filled(n)
	ok, wantOk := tools.Into(x, k, i), layer12.Into(want, k, i)
	if ok != wantOk || !slices.Equal(all, wantAll) {
		t.Fatalf("%T: Into(%d numbers, %d, %d): %v, %v, not %v, %v", tools, n, k, i, all, ok, wantAll, wantOk)
	}
	return x, ok
}

// The first and the last ranks of all numbers and pulses, some between, and
// those that there aren't.
func TestInto(t *testing.T) {
	layer12, c := table.New(), chance(21)
	newBoth().each(func(tools frame.Tools) {
		for n := range 20 {
			for _, k := range sizes(32) {
				v := layer12.V(n, k)
				for _, i := range []uint64{0, 1, v / 2, v - 2, v - 1, v, v + 1, 1 << 32, 1 << 63, math.MaxUint64, uint64(c.next(1 << 30))} {
					x, ok := mustInto(t, tools, layer12, n, k, i)
					if ok != (i < v) {
						t.Fatalf("%T: Into(%d numbers, %d, %d): %v", tools, n, k, i, ok)
					}
					if !ok {
						continue
					}
					if rank, right := tools.Rank(x); rank != i || !right {
						t.Fatalf("%T: Rank(%v): %d, %v, not %d", tools, x, rank, right, i)
					}
				}
			}
		}
	})
}

// Every vector of few numbers and pulses, by the words, and back.
func TestEveryVector(t *testing.T) {
	layer12 := table.New()
	newBoth().each(func(tools frame.Tools) {
		for n := range 6 {
			for k := range 5 {
				for i := range vectors(n, k) {
					x, _ := mustInto(t, tools, layer12, n, k, uint64(i))
					if want := vector(n, k, i); !slices.Equal(x, want) {
						t.Fatalf("%T: Into(%d numbers, %d, %d): %v, not %v", tools, n, k, i, x, want)
					}
					if rank, ok := tools.Rank(x); rank != uint64(i) || !ok {
						t.Fatalf("%T: Rank(%v): %d, %v, not %d", tools, x, rank, ok, i)
					}
				}
			}
		}
	})
}

func TestIntoRows(t *testing.T) {
	newBoth().each(func(tools frame.Tools) {
		x := []int{9, 9}
		if !tools.Into(x, 2, 7) || !slices.Equal(x, []int{-2, 0}) {
			t.Errorf("%T: %v", tools, x)
		}
		if !tools.Into(x, 2, 0) || !slices.Equal(x, []int{0, 2}) {
			t.Errorf("%T: %v", tools, x)
		}
		if tools.Into(x, 2, 8) || tools.Into(x, 33, 0) || tools.Into(x, -1, 0) || !slices.Equal(x, []int{0, 2}) {
			t.Errorf("%T: %v", tools, x)
		}
		if !tools.Into(nil, 0, 0) || tools.Into(nil, 1, 0) || tools.Into(nil, 0, 1) || tools.Into(make([]int, 17), 0, 0) {
			t.Errorf("%T: of no numbers, or of too many", tools)
		}
	})
}

// Ranks of what may be a vector and of what may not; the list stays as it was.
func TestRankOfTools(t *testing.T) {
	layer12 := table.New()
	long := make([]int, 2000)
	long[1500] = 1
	newBoth().each(func(tools frame.Tools) {
		for _, c := range []struct {
			x    []int
			rank uint64
			ok   bool
		}{
			{nil, 0, true}, {[]int{}, 0, true}, {[]int{0}, 0, true}, {[]int{1}, 0, true}, {[]int{-1}, 1, true}, {[]int{-2, 0}, 7, true}, {[]int{0, 2}, 0, true},
			{[]int{32}, 0, true}, {[]int{-32}, 1, true}, {[]int{33}, 0, false}, {[]int{-33}, 0, false}, {[]int{16, -16}, 63, true}, {[]int{16, -17}, 0, false},
			{make([]int, 16), 0, true}, {make([]int, 17), 0, false}, {long, 0, false},
			{[]int{math.MaxInt}, 0, false}, {[]int{math.MinInt}, 0, false}, {[]int{math.MinInt, math.MinInt}, 0, false}, {[]int{math.MaxInt, math.MaxInt, 2}, 0, false},
			{[]int{1 << 32}, 0, false}, {[]int{-1<<32 + 1}, 0, false},
		} {
			was := slices.Clone(c.x)
			rank, ok := tools.Rank(c.x)
			if want, wantOk := layer12.Rank(c.x); rank != want || ok != wantOk {
				t.Errorf("%T: Rank(%v): %d, %v, not %d, %v", tools, was, rank, ok, want, wantOk)
			}
			if ok != c.ok || rank != c.rank {
				t.Errorf("%T: Rank(%v): %d, %v, not %d, %v", tools, was, rank, ok, c.rank, c.ok)
			}
			if !slices.Equal(c.x, was) {
				t.Errorf("%T: %v became %v", tools, was, c.x)
			}
		}
	})
}

// budgets are all about what a mode's pulses may cost, and some far outside.
func budgets() []int {
	l := []int{math.MinInt, math.MinInt + 1, -1 << 32, -1000, 1000, 10200, 1 << 32, math.MaxInt - 1, math.MaxInt}
	for budget := -5; budget < 190; budget++ {
		l = append(l, budget)
	}
	return l
}

// Every mode, right or not, trim and budget: as layer 14's, and by the words.
func TestAllocOfTools(t *testing.T) {
	b, book := newBoth(), count.New()
	for _, m := range modes {
		for trim := -1; trim <= 8; trim++ {
			for _, budget := range budgets() {
				want := shared(m, min(max(trim, 0), 7), budget)
				plain, quick := b.plain.Alloc(m, trim, budget), b.quick.Alloc(m, trim, budget)
				if plain != want || quick != want {
					t.Fatalf("Alloc(%v, %d, %d): %v and %v, not %v", m, trim, budget, plain, quick, want)
				}
				if budget%10 == 0 && alloc.Alloc(book, m, trim, budget) != want {
					t.Fatalf("layer 14: Alloc(%v, %d, %d): not %v", m, trim, budget, want)
				}
			}
		}
	}
	for _, m := range wrong {
		for _, trim := range ints {
			for _, budget := range []int{math.MinInt, -1, 0, 1, 60, 1000, math.MaxInt} {
				if k := b.plain.Alloc(m, trim, budget); k != (pulses{}) {
					t.Fatalf("plain: Alloc(%v, %d, %d): %v", m, trim, budget, k)
				}
				if k := b.quick.Alloc(m, trim, budget); k != (pulses{}) {
					t.Fatalf("quick: Alloc(%v, %d, %d): %v", m, trim, budget, k)
				}
			}
		}
	}
}

func TestAllocRows(t *testing.T) {
	newBoth().each(func(tools frame.Tools) {
		for _, c := range []struct {
			m            mode.Mode
			trim, budget int
			want         pulses
		}{
			{at(0, 1), 7, 3, pulses{}}, {at(0, 1), 7, 4, pulses{0, 0, 1}}, {at(0, 1), 0, 7, pulses{1, 0, 1}}, {at(0, 1), 0, 16, pulses{3, 2, 2}},
			{at(0, 2), 7, 60, pulses{13, 13, 23}}, {at(1, 1), 3, 40, pulses{5, 4, 7, 7}}, {at(1, 2), 7, 60, pulses{2, 1, 3, 5}},
			{at(2, 1), 0, 40, pulses{3, 2, 3, 2, 2}}, {at(2, 2), 7, 180, pulses{32, 32, 32, 10, 10}}, {at(2, 2), 7, 179, pulses{17, 16, 31, 10, 10}},
			{at(2, 1), math.MinInt, 40, pulses{3, 2, 3, 2, 2}}, {at(2, 1), math.MaxInt, 60, pulses{2, 1, 3, 5, 7}},
		} {
			if k := tools.Alloc(c.m, c.trim, c.budget); k != c.want {
				t.Errorf("%T: Alloc(%v, %d, %d): %v, not %v", tools, c.m, c.trim, c.budget, k, c.want)
			}
		}
	})
}

// Again and again, in orders that jump about: tools that were asked a lot tell
// what new ones do, and none hang on what others were asked.
func TestToolsAgainAndAgain(t *testing.T) {
	layer12, c := table.New(), chance(22)
	all := []both{newBoth(), newBoth()}
	for range 4000 {
		b := all[c.next(2)]
		n, k := c.next(18), c.next(35)-1
		m, trim, budget := modes[c.next(6)], c.next(8), c.next(200)-10
		want, i := shared(m, trim, budget), uint64(c.next(1<<30))
		if v := layer12.V(n, k); c.next(2) == 0 && v > 0 {
			i %= v
		}
		if c.next(50) == 0 {
			b = newBoth()
		}
		b.each(func(tools frame.Tools) {
			mustInto(t, tools, layer12, n, k, i)
			if tools.V(n, k) != layer12.V(n, k) || tools.Alloc(m, trim, budget) != want {
				t.Fatalf("%T: %d, %d; %v, %d, %d", tools, n, k, m, trim, budget)
			}
		})
	}
}

// A frame is read by tools that were asked nothing yet just as by others.
func TestNewTools(t *testing.T) {
	b, c := newBoth(), chance(23)
	for range 40 {
		bytes, m, prev := c.bytes(8+c.next(40)), modes[c.next(6)], c.levels()
		bytes[0] &= 0x77
		want, _ := b.mustRead(t, bytes, m, prev)
		if got, _ := newBoth().mustRead(t, bytes, m, prev); got != want {
			t.Errorf("%x: %+v, not %+v", bytes, got, want)
		}
	}
}

// own are tools of the test's own, by quick ones: they share out what they
// like, and note what they are asked.
type own struct {
	frame.Tools
	k       pulses
	none    bool // Into finds no vector
	asked   [][2]int
	trims   []int
	budgets []int
}

func (o *own) V(n, k int) uint64 {
	o.asked = append(o.asked, [2]int{n, k})
	return o.Tools.V(n, k)
}

func (o *own) Into(x []int, k int, i uint64) bool { return !o.none && o.Tools.Into(x, k, i) }

func (o *own) Alloc(_ mode.Mode, trim, budget int) [api.MaxBands]int {
	o.trims = append(o.trims, trim)
	o.budgets = append(o.budgets, budget)
	return o.k
}

// The tools that are handed in share out, and find the vectors: no others do.
func TestToolsOfOnesOwn(t *testing.T) {
	m, bytes := at(2, 2), make([]byte, 60)
	bytes[0] = 5
	o := &own{Tools: frame.Quick(), k: pulses{3, 0, 7, 2, 9}}
	got := read(reader.New(bytes), o, m, full)
	f := got.frame
	if !got.ok || f.K != o.k || f.F != 3 || f.X[0][1] != 3 || f.X[1][7] != 7 || f.X[0][15] != 2 || f.X[1][31] != 9 {
		t.Errorf("%+v", got)
	}
	// 48 bits taken ahead of the fine numbers, 30 of those, and 16 aren't shared.
	if !slices.Equal(o.trims, []int{5}) || !slices.Equal(o.budgets, []int{480 - 48 - 30 - 16}) {
		t.Error(o.trims, o.budgets)
	}
	// Both channels of a band: a half that has no pulses isn't asked for.
	if want := [][2]int{{2, 3}, {2, 3}, {4, 7}, {4, 7}, {8, 2}, {8, 2}, {8, 9}, {8, 9}}; !slices.Equal(o.asked, want) {
		t.Error(o.asked)
	}
	o.none = true
	if got := read(reader.New(bytes), o, m, full); got != (told{}) {
		t.Errorf("%+v", got)
	}
}

// Of a silent frame, and of one whose first number is bad, nothing is shared
// out, and no vector is looked for.
func TestToolsThatNobodyAsks(t *testing.T) {
	for first := range 32 {
		if first < 16 && first%2 == 0 {
			continue
		}
		o := &own{Tools: frame.Quick(), k: most}
		read(reader.New([]byte{byte(first << 3), 1, 2, 3, 4, 5}), o, at(1, 1), full)
		if len(o.asked)+len(o.budgets) != 0 {
			t.Errorf("%d: %v, %v", first, o.asked, o.budgets)
		}
	}
}

// What is shared out by less than nothing is asked for, too: by 16 less than
// what is left, in every mode.
func TestBudgets(t *testing.T) {
	for _, c := range []struct {
		m            mode.Mode
		size, budget int
	}{
		{at(0, 1), 4, -16}, {at(0, 1), 0, -48}, {at(0, 1), 6, 0}, {at(0, 1), 11, 40}, {at(0, 1), 12, 64 - 3 - 16}, {at(0, 1), 20, 128 - 6 - 16}, {at(0, 1), 28, 192 - 9 - 16},
		{at(1, 1), 12, 64 - 4 - 16}, {at(2, 1), 13, 64 - 5 - 16}, {at(0, 2), 21, 128 - 6 - 16}, {at(1, 2), 21, 128 - 8 - 16}, {at(2, 2), 22, 128 - 10 - 16},
		{at(2, 2), 1275, 10200 - 48 - 30 - 16},
	} {
		for trim := range 8 {
			bytes := make([]byte, c.size)
			if c.size > 0 {
				bytes[0] = byte(trim)
			} else if trim > 0 {
				continue
			}
			o := &own{Tools: frame.Quick()}
			read(reader.New(bytes), o, c.m, full)
			if !slices.Equal(o.trims, []int{trim}) || !slices.Equal(o.budgets, []int{c.budget}) {
				t.Errorf("%v, %d bytes: %v, %v", c.m, c.size, o.trims, o.budgets)
			}
		}
	}
}
