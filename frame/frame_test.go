package frame_test

import (
	"math"
	"slices"
	"testing"

	"spinet/api"
	"spinet/frame"
	"spinet/mode"
	"spinet/reader"
	"spinet/swift"
	"spinet/sym"
)

// ints are some from one end to the other.
var ints = []int{
	math.MinInt, math.MinInt + 1, -1 << 32, -64, -2, -1, 0, 1, 2, 3, 63, 64, 65, 127, 128, 191, 192,
	1 << 31, 1 << 32, 1<<32 + 1, 1 << 56, 1 << 57, 1 << 58, 1<<58 + 1, 1 << 59, 1 << 62, math.MaxInt - 1, math.MaxInt,
}

// wrong are some modes that aren't right.
var wrong = []mode.Mode{
	at(0, 0), at(1, 0), at(2, 0), at(0, 3), at(1, 3), at(2, 3), at(0, -1), at(2, -1), at(-1, 1), at(-1, 2), at(3, 1), at(3, 2), at(-1, 0),
	at(8, 1), at(9, 0), at(16, 2), at(32, 1), at(1<<32, 1), at(1, 1<<32+1), at(1<<32+2, 2),
	at(math.MaxInt, 1), at(math.MinInt, 2), at(0, math.MaxInt), at(2, math.MinInt),
	at(math.MaxInt, math.MaxInt), at(math.MinInt, math.MinInt),
}

// full are energies everywhere, each another one.
var full = levels{{3, 14, 15, 9, 26}, {5, 30, 31, 7, 1}}

// silent is what is told of a silent frame.
func silent(first int) told {
	return told{frame.Frame{Silent: true, Intra: first&2 != 0, Spread: first >> 2}, 1 << 19, true}
}

// The chapter's example, and those of the whole: a silent frame whatever came
// ahead; its first number alone counts.
func TestExamples(t *testing.T) {
	b := newBoth()
	for _, m := range modes {
		for _, prev := range []levels{{}, full} {
			got, _ := b.mustRead(t, []byte{8, 0, 0, 0}, m, prev)
			if got != silent(1) {
				t.Errorf("%v: %+v", m, got)
			}
		}
	}
}

// Noughts, read by hand: of 8 samples and a channel, neither silent nor Intra;
// the first number and the trim take a byte, three steps that are 0 none. Of 8
// bytes 32 bits are left, so 16 are shared out.
func TestNoughtsByHand(t *testing.T) {
	b := newBoth()
	for _, c := range []struct {
		size int
		ok   bool
		k    pulses
		x    [api.MaxN]int
	}{
		{3, false, pulses{}, [api.MaxN]int{}}, // 8 bits less than nothing
		{4, true, pulses{}, [api.MaxN]int{}},  // nothing is left
		{5, true, pulses{}, [api.MaxN]int{}},
		{6, true, pulses{}, [api.MaxN]int{}}, // 0 are shared out
		{7, true, pulses{1, 0, 1}, [api.MaxN]int{1: 1, 7: 1}},
		{8, true, pulses{3, 2, 2}, [api.MaxN]int{1: 3, 3: 2, 7: 2}},
	} {
		want := told{}
		if c.ok {
			f := frame.Frame{E: levels{{3, 14, 15}}, K: c.k}
			f.X[0] = c.x
			want = told{f, 512000, true}
		}
		if got, _ := b.mustRead(t, make([]byte, c.size), at(0, 1), full); got != want {
			t.Errorf("%d bytes: %+v, not %+v", c.size, got, want)
		}
	}
}

// Each first number, in every mode: what it says, and whether it is bad.
func TestFirstNumbers(t *testing.T) {
	b, c := newBoth(), chance(1)
	for _, m := range modes {
		for first := range 32 {
			for _, size := range []int{3, 4, 20, 60} {
				for range 3 {
					bytes := c.bytes(size)
					bytes[0] = byte(first<<3 + c.next(8))
					got, why := b.mustRead(t, bytes, m, c.levels())
					switch {
					case first >= 16:
						if why != badFirst || got != (told{}) {
							t.Errorf("%v, %d: %+v", m, first, got)
						}
					case first%2 == 1:
						if got != silent(first) {
							t.Errorf("%v, %d: %+v", m, first, got)
						}
					case why == good:
						if f := got.frame; f.Silent || f.Intra != (first/2%2 == 1) || f.Spread != first/4 {
							t.Errorf("%v, %d: %+v", m, first, f)
						}
					}
				}
			}
		}
	}
}

// The first numbers at the edges as literals.
func TestFirstNumberRows(t *testing.T) {
	b := newBoth()
	for _, c := range []struct {
		first         byte
		ok            bool
		silent, intra bool
		spread        int
	}{
		{0, true, false, false, 0}, {1, true, true, false, 0}, {2, true, false, true, 0}, {3, true, true, true, 0},
		{4, true, false, false, 1}, {7, true, true, true, 1}, {8, true, false, false, 2}, {11, true, true, true, 2},
		{12, true, false, false, 3}, {13, true, true, false, 3}, {14, true, false, true, 3}, {15, true, true, true, 3},
		{16, false, false, false, 0}, {17, false, false, false, 0}, {18, false, false, false, 0}, {30, false, false, false, 0}, {31, false, false, false, 0},
	} {
		for _, m := range modes {
			bytes := make([]byte, 100)
			bytes[0] = c.first << 3
			got, _ := b.mustRead(t, bytes, m, full)
			f := got.frame
			if got.ok != c.ok || f.Silent != c.silent || f.Intra != c.intra || f.Spread != c.spread {
				t.Errorf("%d: %+v", c.first, got)
			}
		}
	}
}

// A silent frame needs 24 bits, and no more; nothing behind its first number
// is looked at.
func TestSilentBounds(t *testing.T) {
	b, c := newBoth(), chance(2)
	for first := 1; first < 16; first += 2 {
		for _, m := range modes {
			for size := 1; size < 12; size++ {
				bytes := c.bytes(size)
				bytes[0] = byte(first<<3 + c.next(8))
				got, why := b.mustRead(t, bytes, m, c.levels())
				if size >= 3 && (got != silent(first) || why != good) || size < 3 && (got != told{} || why != badLeft) {
					t.Errorf("%x: %d, %+v", bytes, why, got)
				}
			}
		}
	}
}

// No bytes, none at all, and few: noughts stand behind them, but too little is
// left.
func TestNoBytes(t *testing.T) {
	b := newBoth()
	for _, m := range modes {
		for _, bytes := range [][]byte{nil, {}, {0}, {0, 0}, {8}, {8, 0}, {0, 0, 0}} {
			if got, why := b.mustRead(t, bytes, m, full); got != (told{}) || why != badLeft {
				t.Errorf("%x: %d, %+v", bytes, why, got)
			}
		}
	}
}

// What is put is read: every mode, first number that isn't silent and trim, in
// packets short and long.
func TestWhatIsPut(t *testing.T) {
	b, c := newBoth(), chance(3)
	for _, m := range modes {
		for first := 0; first < 16; first += 2 {
			for trim := range 8 {
				for _, size := range []int{14 + c.next(10), 24 + c.next(40), 64 + c.next(64)} {
					prev := c.levels()
					got := b.mustBePut(t, size, m, prev, wish{
						first: first, trim: trim,
						step:   func(_, _ int) int { return c.next(7) - 3 },
						fine:   func(_, _, total int) int { return c.next(total) },
						number: func(total int) int { return c.next(total) },
					})
					if f := got.frame; !got.ok || f.Trim != trim || f.Spread != first/4 || f.Intra != (first%4 == 2) {
						t.Errorf("%v, %d, %d: %+v", m, first, trim, got)
					}
				}
			}
		}
	}
}

// The sizes of the greatest packets, and more bytes than a packet has.
func TestLongBytes(t *testing.T) {
	b, c := newBoth(), chance(4)
	for _, m := range modes {
		for _, size := range []int{1274, 1275} {
			got := b.mustBePut(t, size, m, full, wish{first: 14, trim: c.next(8), step: always(1), fine: lastFine, number: last})
			if want := ofMode(m, most); got.frame.K != want || got.frame.F != 3 {
				t.Errorf("%v, %d bytes: %+v", m, size, got.frame)
			}
		}
		for _, size := range []int{1275, 1276, 1300} {
			bytes := c.bytes(size)
			bytes[0] &= 0x77
			b.mustRead(t, bytes, m, full)
		}
	}
}

// ofMode is what of some pulses a mode's bands may have.
func ofMode(m mode.Mode, k pulses) pulses {
	clear(k[bandsOf(m):])
	return k
}

// Each energy ahead and each step, in every channel and band of every mode:
// held within 0 and 31.
func TestEnergies(t *testing.T) {
	b := newBoth()
	for _, m := range modes {
		for ahead := range 32 {
			for step := -7; step <= 7; step++ {
				var prev, want levels
				for ch := range prev {
					for band := range prev[ch] {
						prev[ch][band] = (ahead + 3*band + 16*ch) % 32
						if ch < m.Chans && band < bandsOf(m) {
							want[ch][band] = min(max(prev[ch][band]+step, 0), 31)
						}
					}
				}
				got := b.mustBePut(t, 16, m, prev, wish{step: always(step), fine: lastFine, number: lowest})
				if got.frame.E != want {
					t.Fatalf("%v: %v and %d: %v", m, prev, step, got.frame.E)
				}
			}
		}
	}
}

// Energies as literals: the guess of a later band hangs on what was held, not
// on the sum; a frame that stands for itself takes none of those ahead.
func TestEnergyRows(t *testing.T) {
	b := newBoth()
	zeros, tops := levels{}, levels{{31, 31, 31, 31, 31}, {31, 31, 31, 31, 31}}
	for _, c := range []struct {
		m     mode.Mode
		first int
		prev  levels
		steps levels
		want  levels
	}{
		{at(2, 1), 2, zeros, levels{{7, 7, 7, 7, 7}}, levels{{15, 22, 29, 31, 31}}},
		{at(2, 1), 2, tops, levels{{7, 7, 7, 7, -7}}, levels{{15, 22, 29, 31, 24}}},
		{at(2, 1), 2, tops, levels{{-7, -7, 7, -7, -1}}, levels{{1, 0, 7, 0, 0}}},
		{at(2, 1), 2, full, levels{{-7, -1, -1, 0, 3}}, levels{{1, 0, 0, 0, 3}}},
		{at(0, 1), 2, full, levels{{0, 0, 0}}, levels{{8, 8, 8}}},
		{at(0, 2), 2, full, levels{{0, 1, 2}, {-1, -2, -3}}, levels{{8, 9, 11}, {7, 5, 2}}},
		{at(2, 2), 2, zeros, levels{{7, 7, 7, 7, -3}, {-7, -7, -7, -7, 4}}, levels{{15, 22, 29, 31, 28}, {1, 0, 0, 0, 4}}},
		{at(2, 1), 0, zeros, levels{{7, -7, 0, 1, -1}}, levels{{7, 0, 0, 1, 0}}},
		{at(2, 1), 0, tops, levels{{7, -7, 0, 1, -1}}, levels{{31, 24, 31, 31, 30}}},
		{at(0, 1), 0, full, levels{{0, 0, 0}}, levels{{3, 14, 15}}},
		{at(1, 2), 0, full, levels{{1, 2, 3, 4}, {-4, -3, -2, -1}}, levels{{4, 16, 18, 13}, {1, 27, 29, 6}}},
		{at(2, 2), 0, full, levels{{-7, 6, 5, -5, 7}, {-6, 2, 1, -7, -2}}, levels{{0, 20, 20, 4, 31}, {0, 31, 31, 0, 0}}},
	} {
		got := b.mustBePut(t, 40, c.m, c.prev, wish{
			first: c.first, fine: lastFine, number: lowest,
			step: func(ch, band int) int { return c.steps[ch][band] },
		})
		if got.frame.E != c.want {
			t.Errorf("%v, %d: %v, not %v", c.m, c.first, got.frame.E, c.want)
		}
	}
}

// What prev has of bands and channels that the mode hasn't counts for nothing.
func TestPrevOutsideTheMode(t *testing.T) {
	b, c := newBoth(), chance(5)
	for _, m := range modes {
		for range 50 {
			bytes := c.bytes(8 + c.next(30))
			bytes[0] = byte(c.next(8) << 4)
			prev := c.levels()
			other := c.levels()
			for ch := range m.Chans {
				copy(other[ch][:bandsOf(m)], prev[ch][:])
			}
			was, _ := b.mustRead(t, bytes, m, prev)
			if got, _ := b.mustRead(t, bytes, m, other); got != was {
				t.Errorf("%v: %+v, not %+v", m, got, was)
			}
		}
	}
}

// A frame that stands for itself doesn't hang on the energies ahead.
func TestIntraHangsOnNothing(t *testing.T) {
	b, c := newBoth(), chance(6)
	for _, m := range modes {
		for range 50 {
			bytes := c.bytes(8 + c.next(30))
			bytes[0] = byte(c.next(4)<<5 + 2<<3 + c.next(8))
			was, _ := b.mustRead(t, bytes, m, c.levels())
			if got, _ := b.mustRead(t, bytes, m, c.levels()); got != was {
				t.Errorf("%v: %+v, not %+v", m, got, was)
			}
		}
	}
}

// Just how many bytes give a fine bit more, as literals: four bytes are taken
// behind the trim, and by five steps that are 0 one more.
func TestFineBits(t *testing.T) {
	b := newBoth()
	for _, c := range []struct {
		m               mode.Mode
		one, two, three int
	}{
		{at(0, 1), 12, 20, 28}, {at(1, 1), 12, 20, 28}, {at(2, 1), 13, 21, 29},
		{at(0, 2), 21, 37, 53}, {at(1, 2), 21, 37, 53}, {at(2, 2), 22, 38, 54},
	} {
		for size := 8; size < 90; size++ {
			want := 0
			for _, least := range []int{c.one, c.two, c.three} {
				if size >= least {
					want++
				}
			}
			f := b.mustBePut(t, size, c.m, full, wish{step: always(0), fine: lastFine, number: lowest}).frame
			if f.F != want {
				t.Errorf("%v, %d bytes: F %d, not %d", c.m, size, f.F, want)
			}
			for ch := range c.m.Chans {
				for band := range bandsOf(c.m) {
					if f.Q[ch][band] != 1<<want-1 {
						t.Errorf("%v, %d bytes: %+v", c.m, size, f)
					}
				}
			}
		}
	}
}

// Each fine number at its own place: the bands upwards, in each the channels.
func TestFineNumbers(t *testing.T) {
	b, c := newBoth(), chance(7)
	for _, m := range modes {
		for _, size := range []int{12, 20, 30, 40, 60, 80, 200} {
			for range 5 {
				want := c.levels()
				w := wish{step: always(0), number: lowest, fine: func(ch, band, total int) int { return want[ch][band] % total }}
				f := b.mustBePut(t, size, m, full, w).frame
				for ch := range m.Chans {
					for band := range bandsOf(m) {
						if f.Q[ch][band] != want[ch][band]%(1<<f.F) {
							t.Errorf("%v, %d bytes: %+v", m, size, f)
						}
					}
				}
			}
		}
	}
}

// The bits of a packet's end as literals: six fine numbers of three bits.
func TestFineRow(t *testing.T) {
	bytes := make([]byte, 60)
	copy(bytes[57:], []byte{0b000000_10, 0b0_110_100_1, 0b01_110_101})
	got, _ := newBoth().mustRead(t, bytes, at(0, 2), full)
	if f := got.frame; f.F != 3 || f.Q != (levels{{5, 5, 6}, {6, 4, 4}}) {
		t.Errorf("%+v", f)
	}
}

// Pulses by what is left: none, and by and by as many as there may be, in
// every mode and with every trim. Each band has none, one, few and most of them.
func TestPulses(t *testing.T) {
	b := newBoth()
	var seen [api.MaxBands]map[int]bool
	for band := range seen {
		seen[band] = map[int]bool{}
	}
	for _, m := range modes {
		for trim := range 8 {
			none, some := false, pulses{}
			for size := 6; size < 60; size++ {
				bytes := make([]byte, size)
				bytes[0] = byte(trim)
				got, why := b.mustRead(t, bytes, m, full)
				if why != good {
					continue
				}
				if got.frame.Trim != trim {
					t.Fatalf("%x: %+v", bytes, got)
				}
				none = none || got.frame.K == pulses{}
				some = got.frame.K
				for band := range bandsOf(m) {
					seen[band][some[band]] = true
				}
			}
			if !none || some != ofMode(m, most) {
				t.Errorf("%v, %d: %v, %v", m, trim, none, some)
			}
		}
	}
	for band, k := range most {
		for _, one := range []int{0, 1, 2, 3, 5, k} {
			if !seen[band][one] {
				t.Errorf("band %d: never %d pulses", band, one)
			}
		}
	}
}

// Vectors at their ends, of bands with as many pulses as there may be: the
// first one of all, the last one, and halves that have none.
func TestVectorRows(t *testing.T) {
	b := newBoth()
	for _, c := range []struct {
		number                  func(total int) int
		two, four, eight, whole []int
	}{
		{lowest, []int{0, 32}, []int{0, 0, 0, 32}, []int{0, 0, 0, 0, 0, 0, 0, 10}, []int{0, 0, 0, 0, 0, 0, 0, 0, 0, 0, 0, 0, 0, 0, 0, 10}},
		{last, []int{-32, 0}, []int{-32, 0, 0, 0}, []int{-10, 0, 0, 0, 0, 0, 0, 0}, []int{-10, 0, 0, 0, 0, 0, 0, 0, 0, 0, 0, 0, 0, 0, 0, 0}},
		// 1 is the second one: the last number's opposite; a pulse of the first half.
		{func(int) int { return 1 }, []int{0, -32}, []int{0, 0, 0, -32}, []int{0, 0, 0, 0, 0, 0, 0, -10}, []int{0, 0, 0, 0, 0, 0, 0, -1, 0, 0, 0, 0, 0, 0, 0, -9}},
		// Half of the pulses for each half.
		{func(total int) int {
			if total == 11 {
				return 5
			}
			return total - 1
		}, []int{-32, 0}, []int{-32, 0, 0, 0}, []int{-10, 0, 0, 0, 0, 0, 0, 0}, []int{-5, 0, 0, 0, 0, 0, 0, 0, -5, 0, 0, 0, 0, 0, 0, 0}},
	} {
		for _, m := range modes {
			f := b.mustBePut(t, 80, m, full, wish{step: always(0), fine: lastFine, number: c.number}).frame
			for ch := range m.Chans {
				for band := range bandsOf(m) {
					want := [][]int{c.two, c.two, c.four, c.eight, c.whole}[band]
					for i, number := range want {
						if f.X[ch][starts[band]+i] != number {
							t.Fatalf("%v, channel %d, band %d: %v, not %v", m, ch, band, f.X[ch], want)
						}
					}
				}
			}
		}
	}
}

// Each number of pulses of the first half of 16, from none to all of them.
func TestHalves(t *testing.T) {
	b, c := newBoth(), chance(8)
	for _, chans := range []int{1, 2} {
		for size := 20; size < 80; size += 3 {
			_, want := packetOf(t, size, at(2, chans), full, wish{trim: 7, step: always(0), fine: lastFine, number: lowest})
			k := want.frame.K[4]
			for a := range k + 1 {
				f := b.mustBePut(t, size, at(2, chans), full, wish{
					trim: 7, step: always(0), fine: lastFine,
					number: func(total int) int {
						if total == k+1 {
							return a
						}
						return c.next(total)
					},
				}).frame
				for ch := range chans {
					sum := 0
					for _, number := range f.X[ch][16:24] {
						sum += max(number, -number)
					}
					if f.K[4] != k || sum != a {
						t.Errorf("%d bytes, channel %d: %d of %d: %v", size, ch, a, k, f.X[ch])
					}
				}
			}
		}
	}
}

// Every rank of small vectors, told by its place in the band of each channel.
func TestRanks(t *testing.T) {
	b := newBoth()
	for _, m := range []mode.Mode{at(0, 1), at(1, 2)} {
		for rank := range 400 {
			b.mustBePut(t, 24, m, full, wish{trim: rank % 8, step: always(0), fine: lastFine, number: func(total int) int { return rank % total }})
		}
	}
}

// nth picks one number by another rule than all others; the first one counts 0.
func nth(n int, this, others func(total int) int) func(total int) int {
	count := -1
	return func(total int) int {
		count++
		if count == n {
			return this(total)
		}
		return others(total)
	}
}

// behindLast is the first number that isn't below a total, if it can be put.
func behindLast(total int) int {
	if symbols, raw := form(total); symbols<<raw > total {
		return total
	}
	return total - 1
}

// furthest is the greatest number that can be put.
func furthest(total int) int {
	symbols, raw := form(total)
	return symbols<<raw - 1
}

// A frame is bad by a single number that is, whichever it is; with the last one
// that isn't bad in its place it is good. Vectors of two numbers have none that
// could be bad.
func TestBadNumbers(t *testing.T) {
	b := newBoth()
	for _, m := range modes {
		bads := map[int]int{}
		for size := 9; size < 32; size++ {
			for trim := range 8 {
				for n := range 6 * m.Chans {
					b.putBeyond(t, size, trim, m, n, bads)
				}
			}
		}
		if len(bads) < (m.Size+1)*m.Chans {
			t.Errorf("%v: %v", m, bads)
		}
	}
}

// putBeyond puts a frame of which one number of the vectors lies beyond its
// total, where that can be, and counts the frames that are bad by it.
func (b both) putBeyond(t *testing.T, size, trim int, m mode.Mode, n int, bads map[int]int) {
	t.Helper()
	for _, beyond := range []func(int) int{behindLast, furthest} {
		w := wish{first: 6, trim: trim, step: always(0), fine: lastFine, number: nth(n, beyond, lowest)}
		bytes, want := packetOf(t, size, m, full, w)
		got, why := b.mustRead(t, bytes, m, full)
		if got != want {
			t.Fatalf("%x in %v: %+v, not %+v", bytes, m, got, want)
		}
		if why != badNumber {
			continue
		}
		bads[n]++
		w.number = nth(n, last, lowest)
		if got := b.mustBePut(t, size, m, full, w); !got.ok {
			t.Fatalf("%v, %d: %+v", m, n, got)
		}
	}
}

// A frame is bad by its first number, whatever is behind it.
func TestBadFirst(t *testing.T) {
	b, c := newBoth(), chance(9)
	for _, m := range modes {
		for first := 16; first < 32; first++ {
			w := wish{first: first, trim: 3, step: always(0), fine: lastFine, number: func(total int) int { return c.next(total) }}
			bytes, _ := packetOf(t, 40, m, full, w)
			if got, why := b.mustRead(t, bytes, m, full); got != (told{}) || why != badFirst {
				t.Errorf("%v, %d: %+v", m, first, got)
			}
			w.first -= 16
			if got := b.mustBePut(t, 40, m, full, w); !got.ok {
				t.Errorf("%v, %d: %+v", m, w.first, got)
			}
		}
	}
}

// Nothing left is enough, a bit less isn't: a frame is bad by what is left
// behind all of it alone, though each number of it could be read.
func TestBadByLeft(t *testing.T) {
	b, c := newBoth(), chance(10)
	byLeft := map[int]verdict{}
	for range 4000 {
		m := modes[c.next(len(modes))]
		bytes := c.bytes(3 + c.next(10))
		bytes[0] = byte(c.next(8) << 4)
		w := wordsOf(bytes)
		prev := c.levels()
		byWords(w, m, prev)
		if _, why := b.mustRead(t, bytes, m, prev); why != badNumber {
			byLeft[w.left()] = why
		}
	}
	for left, why := range byLeft {
		if want := map[bool]verdict{true: good, false: badLeft}[left >= 0]; why != want {
			t.Errorf("%d left: %d", left, why)
		}
	}
	for _, left := range []int{-8, 0, 8} {
		if _, ok := byLeft[left]; !ok {
			t.Errorf("none of them left %d: %v", left, byLeft)
		}
	}
}

// Bytes that end in the middle: all shorter and longer ones, of packets in
// every mode.
func TestCutBytes(t *testing.T) {
	b, c := newBoth(), chance(11)
	for _, m := range modes {
		for _, first := range []int{0, 6, 9} {
			bytes, _ := packetOf(t, 45, m, full, wish{
				first: first, trim: c.next(8), step: always(-1), fine: lastFine, number: func(total int) int { return c.next(total) },
			})
			bytes = append(bytes, c.bytes(5)...)
			for end := range len(bytes) + 1 {
				b.mustRead(t, bytes[:end], m, full)
				b.mustRead(t, bytes[end:], m, full)
			}
		}
	}
}

// Bytes by chance, in every mode, behind energies by chance: as the words say,
// and each verdict comes.
func TestByChance(t *testing.T) {
	b, c := newBoth(), chance(12)
	whys := map[verdict]int{}
	for round := range 12000 {
		m := modes[round%len(modes)]
		size := []int{c.next(10), c.next(30), c.next(30), c.next(120), c.next(1301)}[c.next(5)]
		bytes := c.bytes(size)
		if size > 0 && c.next(4) > 0 {
			bytes[0] = byte(c.next(8)<<4 + c.next(8))
		}
		_, why := b.mustRead(t, bytes, m, c.levels())
		whys[why]++
	}
	// A number that is bad comes seldom.
	for why, least := range map[verdict]int{good: 1000, badFirst: 1000, badNumber: 5, badLeft: 1000} {
		if whys[why] < least {
			t.Errorf("verdict %d: %d", why, whys[why])
		}
	}
}

// Bytes that are all the same, or nearly.
func TestPlainBytes(t *testing.T) {
	b := newBoth()
	for _, m := range modes {
		for _, first := range []byte{0x00, 0x12, 0x25, 0x37, 0x41, 0x53, 0x64, 0x76} {
			for _, rest := range []byte{0x00, 0x01, 0x55, 0x7F, 0x80, 0xAA, 0xFE, 0xFF} {
				for _, size := range []int{1, 2, 3, 4, 5, 7, 8, 9, 13, 16, 21, 33, 60} {
					all := slices.Repeat([]byte{rest}, size)
					all[0] = first
					b.mustRead(t, all, m, full)
				}
			}
		}
	}
}

// Of a mode that isn't right nothing is read, whatever bytes there are.
func TestWrongModes(t *testing.T) {
	b, c := newBoth(), chance(13)
	lists := [][]byte{nil, {}, {8, 0, 0, 0}, {0, 0, 0, 0, 0, 0}, {0xFF}, c.bytes(3), c.bytes(40), c.bytes(1300), make([]byte, 100)}
	for _, m := range wrong {
		for _, bytes := range lists {
			for _, tools := range []frame.Tools{b.plain, b.quick} {
				r, s := reader.New(bytes), swift.New(bytes)
				was := see(r)
				for _, got := range []told{read(r, tools, m, full), read(s, tools, m, full)} {
					if got != (told{}) {
						t.Errorf("%v: %+v", m, got)
					}
				}
				if see(r) != was || see(s) != was {
					t.Errorf("%v: something was read", m)
				}
			}
		}
		n := &noted{Source: reader.New(lists[6])}
		if got := read(n, b.quick, m, full); got != (told{}) || n.reads != 0 {
			t.Errorf("%v: %+v, %d reads", m, got, n.reads)
		}
	}
}

// noted is a source of the test's own, by another one: it counts what is read,
// and answers one Get by a symbol that there isn't.
type noted struct {
	sym.Source
	gets, reads int
	bad         int // which Get is answered so, from 1 on
}

func (n *noted) Get(total int) int {
	n.gets++
	if n.gets == n.bad {
		return total
	}
	return n.Source.Get(total)
}

func (n *noted) Take(from, to, total int) {
	n.reads++
	n.Source.Take(from, to, total)
}

func (n *noted) Raw(bits int) uint32 {
	n.reads++
	return n.Source.Raw(bits)
}

// byValue is a source that is no pointer.
type byValue struct{ r *reader.Reader }

func (b byValue) Get(total int) int        { return b.r.Get(total) }
func (b byValue) Take(from, to, total int) { b.r.Take(from, to, total) }
func (b byValue) Raw(n int) uint32         { return b.r.Raw(n) }
func (b byValue) Left() int                { return b.r.Left() }
func (b byValue) Rng() uint32              { return b.r.Rng() }

// Any source will do: one of the test's own, by pointer or by value, and the
// interface itself.
func TestAnySource(t *testing.T) {
	b, c := newBoth(), chance(14)
	for range 300 {
		m := modes[c.next(len(modes))]
		bytes, prev := c.bytes(c.next(60)+1), c.levels()
		bytes[0] &= 0x7F
		want, _ := b.mustRead(t, bytes, m, prev)
		got := []told{
			read(&noted{Source: swift.New(bytes)}, b.plain, m, prev),
			read(byValue{reader.New(bytes)}, b.quick, m, prev),
			read[sym.Source](reader.New(bytes), b.plain, m, prev),
			read[sym.Source](swift.New(bytes), b.quick, m, prev),
		}
		for i := range got {
			if got[i] != want {
				t.Fatalf("%x, source %d: %+v, not %+v", bytes, i, got[i], want)
			}
		}
	}
}

// A number that is bad makes the frame bad, wherever it stands: the first one,
// the trim, or one of a vector. Of a step the nearest one is taken.
func TestBadNumberOfASource(t *testing.T) {
	b := newBoth()
	for _, m := range modes {
		bytes, want := packetOf(t, 60, m, full, wish{step: always(-7), fine: lastFine, number: lowest})
		all := &noted{Source: reader.New(bytes)}
		if got := read(all, b.quick, m, full); got != want || !got.ok {
			t.Fatalf("%v: %+v", m, got)
		}
		count := bandsOf(m) * m.Chans
		for bad := 1; bad <= all.gets; bad++ {
			got := read(&noted{Source: reader.New(bytes), bad: bad}, b.quick, m, full)
			isStep := bad > 2 && bad <= 2+count
			if isStep && got != want || !isStep && got != (told{}) {
				t.Errorf("%v, number %d: %+v", m, bad, got)
			}
		}
	}
}

// Behind a source of which something was read already, the frame is read from
// there on.
func TestReadFromTheMiddle(t *testing.T) {
	b := newBoth()
	for _, m := range modes {
		p := newPut(t, 50)
		p.number(500, 1000)
		p.step(4)
		f, seed, _ := p.frame(m, full, wish{first: 4, trim: 6, step: always(1), fine: lastFine, number: last})
		bytes, e := p.Done()
		p.must(e)
		for _, tools := range []frame.Tools{b.plain, b.quick} {
			r, s := reader.New(bytes), swift.New(bytes)
			sym.Uint(r, 1000)
			sym.Step(r)
			sym.Uint(s, 1000)
			sym.Step(s)
			want := told{f, seed, true}
			if got := read(r, tools, m, full); got != want {
				t.Errorf("%v: %+v, not %+v", m, got, want)
			}
			if got := read(s, tools, m, full); got != want || see(r) != see(s) {
				t.Errorf("%v: %+v, not %+v", m, got, want)
			}
		}
	}
}

// Two frames one behind the other, of one source.
func TestTwoFrames(t *testing.T) {
	b := newBoth()
	w := wish{first: 9, number: lowest}
	p := newPut(t, 20)
	first, seed, _ := p.frame(at(0, 1), full, w)
	w.first = 15
	second, other, _ := p.frame(at(0, 1), full, w)
	bytes, _ := p.Done()
	for _, tools := range []frame.Tools{b.plain, b.quick} {
		s := swift.New(bytes)
		if got := read(s, tools, at(0, 1), full); got != (told{first, seed, true}) {
			t.Errorf("%+v", got)
		}
		if got := read(s, tools, at(0, 1), full); got != (told{second, other, true}) {
			t.Errorf("%+v", got)
		}
	}
}

// Guess as literals.
func TestGuessRows(t *testing.T) {
	prev := full
	own := levels{{1, 2, 4, 6, 10}, {11, 12, 13, 16, 17}}
	for _, c := range []struct {
		ch, band, not, intra int
	}{
		{0, 0, 3, 8}, {0, 1, 14, 1}, {0, 2, 15, 2}, {0, 3, 9, 4}, {0, 4, 26, 6},
		{1, 0, 5, 8}, {1, 1, 30, 11}, {1, 2, 31, 12}, {1, 3, 7, 13}, {1, 4, 1, 16},
		{-1, 0, 0, 0}, {-1, 1, 0, 0}, {2, 0, 0, 0}, {2, 1, 0, 0}, {0, -1, 0, 0}, {1, -1, 0, 0}, {0, 5, 0, 0}, {1, 5, 0, 0},
		{-1, -1, 0, 0}, {2, 5, 0, 0}, {-1, 5, 0, 0}, {2, -1, 0, 0},
	} {
		f := frame.Frame{E: own}
		if x := f.Guess(prev, c.ch, c.band); x != c.not {
			t.Errorf("Guess(%d, %d): %d, not %d", c.ch, c.band, x, c.not)
		}
		f.Intra = true
		if x := f.Guess(prev, c.ch, c.band); x != c.intra {
			t.Errorf("Guess(%d, %d), Intra: %d, not %d", c.ch, c.band, x, c.intra)
		}
		if f != (frame.Frame{Intra: true, E: own}) {
			t.Errorf("%+v", f)
		}
	}
}

// Channels and bands from one end to the other; what else a frame has counts
// for nothing.
func TestGuessAnywhere(t *testing.T) {
	c := chance(15)
	for _, ch := range ints {
		for _, band := range ints {
			for _, intra := range []bool{false, true} {
				f := frame.Frame{
					Silent: c.next(2) == 1, Intra: intra, Spread: c.next(4), Trim: c.next(8), F: c.next(4),
					E: c.levels(), Q: c.levels(), K: c.levels()[0],
				}
				prev, want := c.levels(), 0
				if ch >= 0 && ch < 2 && band >= 0 && band < 5 {
					want = guessed(f, prev, ch, band)
				}
				if x := f.Guess(prev, ch, band); x != want {
					t.Fatalf("Guess(%d, %d) of %+v: %d, not %d", ch, band, f, x, want)
				}
			}
		}
	}
}

// Fines as literals.
func TestFinesRows(t *testing.T) {
	for _, c := range []struct{ left, chans, want int }{
		{math.MinInt, 1, 0}, {-200, 1, 0}, {-64, 1, 0}, {-1, 1, 0}, {0, 1, 0}, {1, 1, 0}, {63, 1, 0}, {64, 1, 1}, {65, 1, 1}, {127, 1, 1},
		{128, 1, 2}, {191, 1, 2}, {192, 1, 3}, {255, 1, 3}, {256, 1, 3}, {10200, 1, 3}, {math.MaxInt, 1, 3},
		{math.MinInt, 2, 0}, {-1, 2, 0}, {0, 2, 0}, {64, 2, 0}, {127, 2, 0}, {128, 2, 1}, {255, 2, 1}, {256, 2, 2}, {383, 2, 2}, {384, 2, 3},
		{511, 2, 3}, {512, 2, 3}, {math.MaxInt, 2, 3},
		{191, 3, 0}, {192, 3, 1}, {575, 3, 2}, {576, 3, 3},
		{1000, 0, 0}, {1000, -1, 0}, {1000, -2, 0}, {1000, math.MinInt, 0}, {math.MaxInt, 0, 0}, {math.MaxInt, -1, 0}, {math.MaxInt, math.MinInt, 0},
		{-1000, -1, 0}, {math.MinInt, -1, 0}, {math.MinInt, 0, 0}, {math.MinInt, math.MinInt, 0}, {math.MinInt, math.MaxInt, 0},
		{1000, math.MaxInt, 0}, {math.MaxInt, math.MaxInt, 0},
		// 64 times the channels is no int.
		{math.MaxInt, 1 << 55, 3}, {math.MaxInt, 1 << 56, 1}, {1<<62 - 1, 1 << 56, 0}, {math.MaxInt, 1 << 57, 0}, {math.MaxInt, 1 << 58, 0}, {64, 1<<58 + 1, 0},
	} {
		if f := frame.Fines(c.left, c.chans); f != c.want {
			t.Errorf("Fines(%d, %d): %d, not %d", c.left, c.chans, f, c.want)
		}
	}
}

// All that may be left of a packet, by so many channels.
func TestFinesOfPackets(t *testing.T) {
	for left := -100; left <= 8*api.MaxPacket; left++ {
		for chans := -3; chans < 10; chans++ {
			want := 0
			for want < 3 && chans > 0 && left >= 64*chans*(want+1) {
				want++
			}
			if f := frame.Fines(left, chans); f != want {
				t.Fatalf("Fines(%d, %d): %d, not %d", left, chans, f, want)
			}
		}
	}
	for _, left := range ints {
		for _, chans := range ints {
			if f := frame.Fines(left, chans); f < 0 || f > 3 {
				t.Errorf("Fines(%d, %d): %d", left, chans, f)
			}
		}
	}
}

// What was answered is the asker's own.
func TestFramesAreCopies(t *testing.T) {
	b := newBoth()
	bytes, want := packetOf(t, 60, at(2, 2), full, wish{step: always(2), fine: lastFine, number: last})
	for range 2 {
		got, _ := b.mustRead(t, bytes, at(2, 2), full)
		if got != want {
			t.Errorf("%+v", got)
		}
		got.frame.X[0][0], got.frame.K[0], got.frame.E[1][4] = 9, 9, 9
	}
}
