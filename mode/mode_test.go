package mode_test

import (
	"maps"
	"math"
	"slices"
	"testing"

	"spinet/api"
	"spinet/mode"
)

// all are the modes in order, written out.
var all = []mode.Mode{{0, 1}, {0, 2}, {1, 1}, {1, 2}, {2, 1}, {2, 2}}

// wrong are modes with a size or channels outside their bounds, or both.
var wrong = []mode.Mode{
	{0, 0}, {1, 0}, {2, 0}, {0, 3}, {1, 3}, {2, 3}, {-1, 1}, {-1, 2}, {3, 1}, {3, 2}, {-1, 0}, {3, 3},
	{0, -1}, {2, -2}, {1, 8}, {8, 1}, {16, 2}, {32, 1}, {-2, 1}, {1 << 32, 1}, {1, 1 << 32}, {1<<32 + 1, 1<<32 + 1},
	{math.MaxInt, 1}, {math.MinInt, 2}, {1, math.MaxInt}, {2, math.MinInt},
	{math.MaxInt, math.MaxInt}, {math.MinInt, math.MinInt}, {math.MinInt, math.MaxInt},
}

// layouts are the chapter's sizes: their samples, and the bands with what is
// below them.
var layouts = []struct {
	n     int
	width []int
	from  []int
}{
	{8, []int{2, 2, 4}, []int{0, 2, 4}},
	{16, []int{2, 2, 4, 8}, []int{0, 2, 4, 8}},
	{32, []int{2, 2, 4, 8, 16}, []int{0, 2, 4, 8, 16}},
}

// ints are the numbers from -70 to 70, those about each power of two, of
// either sign, and both ends.
func ints() []int {
	l := []int{math.MinInt, math.MinInt + 1, math.MaxInt - 1, math.MaxInt}
	for x := -70; x <= 70; x++ {
		l = append(l, x)
	}
	for n := range 63 {
		p := 1 << n
		l = append(l, p-1, p, p+1, -p-1, -p, -p+1)
	}
	return l
}

func TestExamples(t *testing.T) {
	m, e := mode.Of(16, 2)
	if e != api.OK || m.Bands() != 4 || m.From(3) != 8 {
		t.Error(m, e, m.Bands(), m.From(3))
	}
}

func TestOfRows(t *testing.T) {
	for _, c := range []struct {
		n, chans int
		want     mode.Mode
		e        api.Errno
	}{
		{8, 1, mode.Mode{Size: 0, Chans: 1}, api.OK}, {8, 2, mode.Mode{Size: 0, Chans: 2}, api.OK},
		{16, 1, mode.Mode{Size: 1, Chans: 1}, api.OK}, {16, 2, mode.Mode{Size: 1, Chans: 2}, api.OK},
		{32, 1, mode.Mode{Size: 2, Chans: 1}, api.OK}, {32, 2, mode.Mode{Size: 2, Chans: 2}, api.OK},
		// Samples that no mode has.
		{0, 1, mode.Mode{}, api.ErrRange}, {1, 1, mode.Mode{}, api.ErrRange}, {2, 2, mode.Mode{}, api.ErrRange},
		{4, 1, mode.Mode{}, api.ErrRange}, {7, 1, mode.Mode{}, api.ErrRange}, {9, 2, mode.Mode{}, api.ErrRange},
		{24, 1, mode.Mode{}, api.ErrRange}, {31, 2, mode.Mode{}, api.ErrRange}, {33, 1, mode.Mode{}, api.ErrRange},
		{64, 1, mode.Mode{}, api.ErrRange}, {-8, 1, mode.Mode{}, api.ErrRange}, {1<<32 + 8, 1, mode.Mode{}, api.ErrRange},
		// Channels that no mode has.
		{8, 0, mode.Mode{}, api.ErrRange}, {16, 3, mode.Mode{}, api.ErrRange}, {32, -1, mode.Mode{}, api.ErrRange},
		{8, 1<<32 + 1, mode.Mode{}, api.ErrRange}, {8, math.MinInt, mode.Mode{}, api.ErrRange}, {32, math.MaxInt, mode.Mode{}, api.ErrRange},
		// Neither.
		{0, 0, mode.Mode{}, api.ErrRange}, {5, 5, mode.Mode{}, api.ErrRange}, {math.MaxInt, math.MinInt, mode.Mode{}, api.ErrRange},
	} {
		if got, e := mode.Of(c.n, c.chans); got != c.want || e != c.e {
			t.Errorf("Of(%d, %d): %v, %d, not %v, %d", c.n, c.chans, got, e, c.want, c.e)
		}
	}
}

func TestOfByDefinition(t *testing.T) {
	for _, n := range ints() {
		for _, chans := range ints() {
			want, wantE := mode.Mode{}, api.ErrRange
			for size, l := range layouts {
				if l.n == n && (chans == 1 || chans == 2) {
					want, wantE = mode.Mode{Size: size, Chans: chans}, api.OK
				}
			}
			if got, e := mode.Of(n, chans); got != want || e != wantE {
				t.Fatalf("Of(%d, %d): %v, %d, not %v, %d", n, chans, got, e, want, wantE)
			}
		}
	}
}

func TestRight(t *testing.T) {
	for _, size := range ints() {
		for _, chans := range ints() {
			m := mode.Mode{Size: size, Chans: chans}
			if got, want := m.Right(), slices.Contains(all, m); got != want {
				t.Fatalf("%v.Right(): %t, not %t", m, got, want)
			}
		}
	}
	for _, m := range wrong {
		if m.Right() {
			t.Error(m, "is right")
		}
	}
}

func TestRightModes(t *testing.T) {
	for _, m := range all {
		l := layouts[m.Size]
		if m.N() != l.n || m.Bands() != len(l.width) || m.Samples() != l.n*m.Chans {
			t.Error(m, m.N(), m.Bands(), m.Samples())
		}
		for band := range l.width {
			if m.Width(band) != l.width[band] || m.From(band) != l.from[band] {
				t.Error(m, band, m.Width(band), m.From(band))
			}
		}
	}
}

func TestSamplesRows(t *testing.T) {
	for i, want := range []int{8, 16, 16, 32, 32, 64} {
		if got := all[i].Samples(); got != want {
			t.Errorf("%v.Samples(): %d, not %d", all[i], got, want)
		}
	}
}

func TestBandsThatAreNotThere(t *testing.T) {
	for _, m := range all {
		for _, band := range ints() {
			if band >= 0 && band < len(layouts[m.Size].width) {
				continue
			}
			if m.Width(band) != 0 || m.From(band) != 0 {
				t.Error(m, band, m.Width(band), m.From(band))
			}
		}
	}
}

// A mode's bands fill its samples, without a gap.
func TestBandsFillTheSamples(t *testing.T) {
	for _, m := range all {
		next := 0
		for band := range m.Bands() {
			if m.From(band) != next {
				t.Error(m, band, m.From(band), next)
			}
			next += m.Width(band)
		}
		if next != m.N() {
			t.Error(m, next, m.N())
		}
	}
}

func TestWrongModes(t *testing.T) {
	for _, m := range wrong {
		if m.N() != 0 || m.Bands() != 0 || m.Samples() != 0 {
			t.Error(m, m.N(), m.Bands(), m.Samples())
		}
		for _, band := range ints() {
			if m.Width(band) != 0 || m.From(band) != 0 {
				t.Error(m, band, m.Width(band), m.From(band))
			}
		}
	}
}

func TestAll(t *testing.T) {
	got := mode.All()
	if !slices.Equal(got, all) {
		t.Error(got)
	}
	// What is done to one answer isn't seen in the next.
	clear(got)
	_ = append(got[:0], mode.Mode{Size: 9, Chans: 9})
	if got := mode.All(); !slices.Equal(got, all) {
		t.Error(got)
	}
}

// lists are given to Count and Most, with what they ask for.
var lists = []struct {
	list  []mode.Mode
	count map[mode.Mode]int
	most  mode.Mode
	found bool
}{
	{nil, map[mode.Mode]int{}, mode.Mode{}, false},
	{[]mode.Mode{}, map[mode.Mode]int{}, mode.Mode{}, false},
	{[]mode.Mode{{0, 0}}, map[mode.Mode]int{}, mode.Mode{}, false},
	{wrong, map[mode.Mode]int{}, mode.Mode{}, false},
	{[]mode.Mode{{0, 1}}, map[mode.Mode]int{{0, 1}: 1}, mode.Mode{Size: 0, Chans: 1}, true},
	{[]mode.Mode{{2, 2}}, map[mode.Mode]int{{2, 2}: 1}, mode.Mode{Size: 2, Chans: 2}, true},
	{[]mode.Mode{{1, 2}, {1, 2}, {1, 2}}, map[mode.Mode]int{{1, 2}: 3}, mode.Mode{Size: 1, Chans: 2}, true},
	// Those that aren't right don't count, however often they are there.
	{[]mode.Mode{{3, 1}, {2, 1}, {3, 1}, {0, 0}, {0, 0}, {0, 0}}, map[mode.Mode]int{{2, 1}: 1}, mode.Mode{Size: 2, Chans: 1}, true},
	// The most often there are: the first in order, in the middle, the last.
	{[]mode.Mode{{2, 2}, {0, 1}, {1, 1}, {0, 1}}, map[mode.Mode]int{{2, 2}: 1, {0, 1}: 2, {1, 1}: 1}, mode.Mode{Size: 0, Chans: 1}, true},
	{[]mode.Mode{{1, 1}, {0, 1}, {2, 2}, {1, 1}}, map[mode.Mode]int{{1, 1}: 2, {0, 1}: 1, {2, 2}: 1}, mode.Mode{Size: 1, Chans: 1}, true},
	{[]mode.Mode{{0, 1}, {1, 2}, {2, 2}, {2, 2}}, map[mode.Mode]int{{0, 1}: 1, {1, 2}: 1, {2, 2}: 2}, mode.Mode{Size: 2, Chans: 2}, true},
	// Of several the first in order is told, not the first or the last there:
	// by the size, whatever the channels are, and then by the channels.
	{[]mode.Mode{{2, 1}, {1, 2}, {2, 2}}, map[mode.Mode]int{{2, 1}: 1, {1, 2}: 1, {2, 2}: 1}, mode.Mode{Size: 1, Chans: 2}, true},
	{[]mode.Mode{{1, 1}, {0, 2}}, map[mode.Mode]int{{1, 1}: 1, {0, 2}: 1}, mode.Mode{Size: 0, Chans: 2}, true},
	{[]mode.Mode{{2, 2}, {2, 1}}, map[mode.Mode]int{{2, 2}: 1, {2, 1}: 1}, mode.Mode{Size: 2, Chans: 1}, true},
	{[]mode.Mode{{0, 1}, {2, 1}, {1, 1}, {2, 1}, {1, 1}}, map[mode.Mode]int{{0, 1}: 1, {2, 1}: 2, {1, 1}: 2}, mode.Mode{Size: 1, Chans: 1}, true},
	{[]mode.Mode{{2, 2}, {2, 1}, {1, 2}, {1, 1}, {0, 2}, {0, 1}}, map[mode.Mode]int{{0, 1}: 1, {0, 2}: 1, {1, 1}: 1, {1, 2}: 1, {2, 1}: 1, {2, 2}: 1}, mode.Mode{Size: 0, Chans: 1}, true},
}

func TestCountRows(t *testing.T) {
	for _, c := range lists {
		got := mode.Count(c.list...)
		if !maps.Equal(got, c.count) {
			t.Errorf("Count(%v): %v, not %v", c.list, got, c.count)
		}
		// An answer is a map that can be written into, and shares none.
		got[mode.Mode{Size: 7, Chans: 7}] = 7
		if got := mode.Count(c.list...); !maps.Equal(got, c.count) {
			t.Errorf("Count(%v), again: %v, not %v", c.list, got, c.count)
		}
	}
}

func TestMostRows(t *testing.T) {
	for _, c := range lists {
		if got, found := mode.Most(c.list...); got != c.most || found != c.found {
			t.Errorf("Most(%v): %v, %t, not %v, %t", c.list, got, found, c.most, c.found)
		}
	}
}

// before tells which of two modes is the first in order.
func before(a, b mode.Mode) bool {
	return a.Size < b.Size || a.Size == b.Size && a.Chans < b.Chans
}

// wantMost takes of a list that which nothing else beats.
func wantMost(l []mode.Mode) (mode.Mode, bool) {
	most, often := mode.Mode{}, 0
	for _, m := range l {
		if !slices.Contains(all, m) {
			continue
		}
		times := 0
		for _, other := range l {
			if other == m {
				times++
			}
		}
		if times > often || times == often && before(m, most) {
			most, often = m, times
		}
	}
	return most, often > 0
}

// Every list of up to five of the modes and of two that aren't right.
func TestMostOfEveryShortList(t *testing.T) {
	kinds := append(slices.Clone(all), mode.Mode{}, mode.Mode{Size: 3, Chans: 1})
	var try func(l []mode.Mode)
	try = func(l []mode.Mode) {
		want, wantFound := wantMost(l)
		if got, found := mode.Most(l...); got != want || found != wantFound {
			t.Fatalf("Most(%v): %v, %t, not %v, %t", l, got, found, want, wantFound)
		}
		if len(l) == 5 {
			return
		}
		for _, m := range kinds {
			try(append(slices.Clone(l), m))
		}
	}
	try(nil)
}

func TestListsAreNotWrittenInto(t *testing.T) {
	for _, c := range lists {
		was := slices.Clone(c.list)
		mode.Count(c.list...)
		mode.Most(c.list...)
		if !slices.Equal(c.list, was) {
			t.Error(was, "became", c.list)
		}
	}
}
