package pack_test

import (
	"bytes"
	"math"
	"testing"

	"spinet/api"
	"spinet/frame"
	"spinet/mode"
	"spinet/pack"
)

// wrong are some modes that aren't right.
var wrong = []mode.Mode{
	at(0, 0), at(1, 0), at(2, 0), at(0, 3), at(1, 3), at(2, 3), at(0, -1), at(2, -1), at(-1, 1), at(-1, 2), at(3, 1), at(3, 2), at(-1, 0),
	at(8, 1), at(9, 0), at(16, 2), at(32, 1), at(1<<32, 1), at(1, 1<<32+1), at(1<<32+2, 2),
	at(math.MaxInt, 1), at(math.MinInt, 2), at(0, math.MaxInt), at(2, math.MinInt),
	at(math.MaxInt, math.MaxInt), at(math.MinInt, math.MinInt),
}

// outside are sizes that there aren't.
var outside = []int{
	math.MinInt, math.MinInt + 1, -1 << 32, -1<<32 + 8, -8, -1, 0, 1, 2, 3, 1276, 1277, 2048, 4096, 1<<32 + 8, 1<<61 + 8, math.MaxInt - 1, math.MaxInt,
}

// The chapter's example.
func TestExample(t *testing.T) {
	a := newAll()
	for _, m := range modes {
		for _, prev := range []levels{{}, full} {
			f := mustFit(t, 4, m, prev, pack.Wish{Silent: true})
			if got := a.mustTake(t, 4, m, prev, f); !bytes.Equal(got, []byte{8, 0, 0, 0}) || f != (frame.Frame{Silent: true}) {
				t.Errorf("%v: % x, %+v", m, got, f)
			}
		}
	}
}

func TestSizesOutside(t *testing.T) {
	a := newAll()
	frames := []frame.Frame{{}, {Silent: true}, {Spread: 4}, {Silent: true, Trim: 1}, {E: full}, {K: pulses{1}}}
	for _, size := range outside {
		for _, m := range append(modes, wrong...) {
			for _, f := range frames {
				a.mustRefuse(t, size, m, levels{}, f, api.ErrRange)
			}
			for _, w := range []pack.Wish{{}, {Silent: true}, {Intra: true, Spread: 5}} {
				if f, e := pack.Fit(size, m, full, w); e != api.ErrRange || f != (frame.Frame{}) {
					t.Fatal(size, m, e, f)
				}
			}
		}
	}
}

func TestModesThatArentRight(t *testing.T) {
	a := newAll()
	for _, m := range wrong {
		for _, size := range []int{4, 5, 8, 15, 16, 40, 1274, 1275} {
			for _, f := range []frame.Frame{{}, {Silent: true}, {Spread: 4}, {E: levels{{8, 8, 8, 8, 8}, {8, 8, 8, 8, 8}}, Intra: true}} {
				a.mustRefuse(t, size, m, levels{}, f, api.ErrArg)
			}
			for _, w := range []pack.Wish{{}, {Silent: true}, {Intra: true, Spread: 5}} {
				if f, e := pack.Fit(size, m, full, w); e != api.ErrArg || f != (frame.Frame{}) {
					t.Fatal(size, m, e, f)
				}
			}
		}
	}
}

// sizes are those at edges, and some between.
var sizes = []int{4, 5, 6, 7, 8, 9, 10, 11, 12, 13, 14, 15, 16, 17, 20, 25, 31, 32, 40, 60, 100, 256, 800, 1274, 1275}

// parts are all numbers of a frame but its spread.
func parts(f *frame.Frame) []*int {
	l := []*int{&f.Trim, &f.F}
	for ch := range f.E {
		for band := range f.E[ch] {
			l = append(l, &f.E[ch][band], &f.Q[ch][band])
		}
		for i := range f.X[ch] {
			l = append(l, &f.X[ch][i])
		}
	}
	for band := range f.K {
		l = append(l, &f.K[band])
	}
	return l
}

func TestSilentFrames(t *testing.T) {
	a := newAll()
	for _, m := range modes {
		for _, size := range sizes {
			for spread := range 4 {
				for _, intra := range []bool{false, true} {
					f := frame.Frame{Silent: true, Intra: intra, Spread: spread}
					want := make([]byte, size)
					want[0] = byte(8 * first(f))
					if got := a.mustTake(t, size, m, full, f); !bytes.Equal(got, want) {
						t.Fatalf("%+v: % x, not % x", f, got, want)
					}
				}
			}
		}
	}
}

func TestSilentFramesHaveNothingElse(t *testing.T) {
	a := newAll()
	for _, m := range modes {
		for _, size := range []int{4, 8, 40, 1275} {
			for i := range parts(new(frame.Frame)) {
				for _, n := range []int{math.MinInt, -1, 1, 2, 8, math.MaxInt} {
					f := frame.Frame{Silent: true, Intra: i%2 == 0, Spread: i % 4}
					*parts(&f)[i] = n
					a.mustRefuse(t, size, m, full, f, api.ErrArg)
				}
			}
			for _, spread := range []int{math.MinInt, -4, -1, 4, 5, 8, math.MaxInt} {
				a.mustRefuse(t, size, m, full, frame.Frame{Silent: true, Spread: spread}, api.ErrArg)
			}
		}
	}
}

// ints are some from one end to the other.
var ints = []int{
	math.MinInt, math.MinInt + 1, -1 << 32, -1<<32 + 1, -1000, -40, -33, -32, -31, -9, -8, -7, -2, -1, 0, 1, 2, 3, 4, 5, 7, 8, 9,
	15, 16, 31, 32, 33, 39, 255, 256, 257, 1001, 1 << 31, 1 << 32, 1<<32 + 1, 1 << 61, 1<<61 + 3, 1 << 62, math.MaxInt - 1, math.MaxInt,
}

func TestSpreadsAndTrims(t *testing.T) {
	a := newAll()
	for _, m := range modes {
		for _, size := range []int{4, 8, 40} {
			// Nothing hangs on the spread, so each is right with the same rest.
			f := mustFit(t, size, m, levels{}, pack.Wish{Trim: 3})
			for _, spread := range ints {
				f.Spread = spread
				want := writtenByWords(size, m, levels{}, f).e
				if (want == api.ErrArg) != (spread < 0 || spread > 3) {
					t.Fatal(spread, want)
				}
				a.mustRefuse(t, size, m, levels{}, f, want)
			}
			for _, trim := range ints {
				f := mustFit(t, size, m, levels{}, pack.Wish{Trim: uint8(trim)})
				f.Trim = trim
				want := writtenByWords(size, m, levels{}, f).e
				if (want == api.ErrArg) != (trim < 0 || trim > 7) {
					t.Fatal(trim, want)
				}
				a.mustRefuse(t, size, m, levels{}, f, want)
			}
		}
	}
}

// far is a frame in a long packet, whose energies can be moved without moving
// fine bits or pulses.
const far = 200

func TestEnergies(t *testing.T) {
	t.Parallel()
	a := newAll()
	tried := map[bool]int{}
	for _, m := range modes {
		for _, intra := range []bool{false, true} {
			for _, guess := range []int{0, 1, 6, 7, 8, 12, 23, 24, 25, 30, 31} {
				var prev levels
				for ch := range prev {
					for band := range prev[ch] {
						prev[ch][band] = guess
					}
				}
				base := mustFit(t, far, m, prev, pack.Wish{Intra: intra})
				for _, at := range places(m) {
					for _, e := range append([]int{guess - 8, guess - 7, guess + 7, guess + 8, 1, 24}, ints...) {
						f := base
						f.E[at.ch][at.band] = e
						// Of one that stands for itself those above follow.
						for band := at.band + 1; intra && band < bandsOf(m); band++ {
							f.E[at.ch][band] = max(0, min(31, e))
						}
						guess := guessed(f, prev, at.ch, at.band)
						ok := e >= 0 && e <= 31 && e-guess <= 7 && guess-e <= 7
						tried[ok]++
						if ok {
							a.mustTake(t, far, m, prev, f)
						} else {
							a.mustRefuse(t, far, m, prev, f, api.ErrArg)
						}
					}
				}
			}
		}
	}
	if tried[true] < 1000 || tried[false] < 1000 {
		t.Error(tried)
	}
}

// Each energy of a band that stands for itself is guessed by the one below it
// of its own channel, the lowest one by 8.
func TestGuessesOfFramesThatStandForThemselves(t *testing.T) {
	a := newAll()
	m := at(2, 2)
	f := mustFit(t, far, m, full, pack.Wish{Intra: true})
	f.E = levels{{15, 22, 29, 31, 24}, {1, 8, 1, 0, 7}}
	a.mustTake(t, far, m, full, f)
	a.mustTake(t, far, m, levels{}, f)
	for _, at := range places(m) {
		g := f
		away := guessed(f, full, at.ch, at.band) + 8
		if away > 31 {
			away -= 16
		}
		g.E[at.ch][at.band] = away
		a.mustRefuse(t, far, m, full, g, api.ErrArg)
	}
	// Of one that doesn't the frame ahead counts.
	f.Intra = false
	a.mustRefuse(t, far, m, full, f, api.ErrArg)
	a.mustTake(t, far, m, f.E, f)
}

// Of energies ahead that are none (prev outside 0 to 31) nothing is promised:
// here what is asked of them, that all is answered and nothing goes round.
func TestEnergiesAheadThatAreNone(t *testing.T) {
	t.Parallel()
	a := newAll()
	for _, m := range modes {
		for _, guess := range ints {
			var prev levels
			for ch := range prev {
				for band := range prev[ch] {
					prev[ch][band] = guess
				}
			}
			for _, step := range []int8{-128, -7, 0, 7, 127} {
				w := pack.Wish{}
				for ch := range w.Steps {
					w.Steps[ch] = [api.MaxBands]int8{step, step, step, step, step}
				}
				f, e := pack.Fit(far, m, prev, w)
				nearest := max(0, min(31, max(-10, min(guess, 50))+max(-7, min(int(step), 7))))
				if away := nearest - max(-10, min(guess, 50)); away < -7 || away > 7 {
					if e != api.ErrArg || f != (frame.Frame{}) {
						t.Fatal(m, guess, step, e, f)
					}
				} else if e != api.OK || f.E[0][0] != nearest {
					t.Fatal(m, guess, step, e, f)
				}
				// Those that stand for themselves don't hang on them.
				w.Intra = true
				f = mustFit(t, far, m, prev, w)
				a.mustTake(t, far, m, prev, f)
			}
			for _, e := range ints {
				f := mustFit(t, far, m, levels{}, pack.Wish{})
				f.E[0][0] = e
				if got, want := a.mustWrite(t, far, m, prev, f).e, writtenByWords(far, m, prev, f).e; got != want {
					t.Fatal(m, guess, e, got)
				}
			}
		}
	}
}

func TestFineBits(t *testing.T) {
	t.Parallel()
	a := newAll()
	seen := map[int]int{}
	for _, m := range modes {
		for size := 4; size < 120; size++ {
			for _, intra := range []bool{false, true} {
				w := pack.Wish{Intra: intra}
				base := mustFit(t, size, m, full, w)
				seen[base.F]++
				for _, bits := range ints {
					f := base
					f.F = bits
					if bits != base.F {
						a.mustRefuse(t, size, m, full, f, api.ErrArg)
					}
				}
			}
		}
	}
	for bits := range 4 {
		if seen[bits] < 10 {
			t.Error(bits, seen)
		}
	}
}

func TestFineNumbers(t *testing.T) {
	a := newAll()
	for _, m := range modes {
		for _, size := range []int{8, 16, 20, 30, 45, 60, 1275} {
			base := mustFit(t, size, m, full, pack.Wish{Intra: true})
			behind := 1 << base.F
			for _, at := range places(m) {
				for _, q := range append([]int{behind - 1, behind, behind + 1}, ints...) {
					f := base
					f.Q[at.ch][at.band] = q
					if q >= 0 && q < behind {
						a.mustTake(t, size, m, full, f)
					} else {
						a.mustRefuse(t, size, m, full, f, api.ErrArg)
					}
				}
			}
		}
	}
}

// longer puts a pulse more where there is one of that sign, or none: 1.
func longer(x int) int {
	if x < 0 {
		return x - 1
	}
	return x + 1
}

func TestPulses(t *testing.T) {
	a := newAll()
	for _, m := range modes {
		for _, size := range []int{4, 8, 12, 16, 25, 40, 1275} {
			base := mustFit(t, size, m, full, pack.Wish{Intra: true, Trim: 2})
			for band := range api.MaxBands {
				for _, k := range append([]int{base.K[band] - 1, base.K[band] + 1}, ints...) {
					f := base
					f.K[band] = k
					if f == base {
						continue
					}
					a.mustRefuse(t, size, m, full, f, api.ErrArg)
				}
				if band >= bandsOf(m) {
					continue
				}
				// More pulses, or less, than are shared out aren't put with vectors
				// that have as many either.
				more, less := base, base
				more.K[band]++
				less.K[band]--
				for ch := range m.Chans {
					x := more.X[ch][starts[band]:]
					x[0] = longer(x[0])
					for i := range wide[band] {
						y := less.X[ch][starts[band]:]
						if y[i] != 0 {
							y[i] += max(-1, min(1, -y[i]))
							break
						}
					}
				}
				a.mustRefuse(t, size, m, full, more, api.ErrArg)
				a.mustRefuse(t, size, m, full, less, api.ErrArg)
			}
		}
	}
}

func TestVectors(t *testing.T) {
	t.Parallel()
	a := newAll()
	for _, m := range modes {
		for _, size := range []int{8, 10, 16, 25, 40, 1275} {
			base := mustFit(t, size, m, full, chanceWish(size))
			for _, at := range places(m) {
				from := starts[at.band]
				for i := range wide[at.band] {
					a.holdNumber(t, size, m, base, at, from+i)
				}
			}
		}
	}
}

func chanceWish(seed int) pack.Wish {
	c := chance(seed)
	w := c.wish(0)
	w.Silent, w.Intra = false, true
	return w
}

// holdNumber moves a number of a vector: a pulse too few, too many, in another
// place of its band, and in another band.
func (a all) holdNumber(t *testing.T, size int, m mode.Mode, base frame.Frame, at place, i int) {
	t.Helper()
	was := base.X[at.ch][i]
	for _, x := range append([]int{was - 1, was + 1, was + 1<<32, was + math.MinInt, 1000 + was, -1000 + was}, ints...) {
		f := base
		f.X[at.ch][i] = x
		if abs(x) == abs(was) {
			a.mustTake(t, size, m, full, f)
		} else {
			a.mustRefuse(t, size, m, full, f, api.ErrArg)
		}
	}
	if was == 0 {
		return
	}
	for other := range samplesOf(m) {
		f := base
		f.X[at.ch][i] += max(-1, min(1, -was))
		f.X[at.ch][other] = longer(f.X[at.ch][other])
		if starts[at.band] <= other && other < starts[at.band]+wide[at.band] {
			a.mustTake(t, size, m, full, f)
		} else {
			a.mustRefuse(t, size, m, full, f, api.ErrArg)
		}
	}
}

// Numbers whose magnitudes add up to the pulses only if they go round.
func TestVectorsThatGoRound(t *testing.T) {
	a := newAll()
	for _, m := range modes {
		base := mustFit(t, far, m, full, pack.Wish{Intra: true})
		for _, at := range places(m) {
			f := base
			x := f.X[at.ch][starts[at.band] : starts[at.band]+wide[at.band]]
			k := f.K[at.band]
			for _, l := range [][2]int{
				{math.MinInt, math.MinInt}, {math.MaxInt, math.MaxInt}, {1 << 63 >> 1, k}, {math.MinInt, k},
				{math.MaxInt, k + 1}, {math.MinInt + 1, k + 1}, {math.MaxInt, math.MinInt}, {1<<32 + k, 0}, {1 << 32, k}, {1 << 33, k},
				{k, -k}, {k, 1}, {k + 1, -1}, {2 * k, -k},
			} {
				clear(x)
				x[0], x[1] = l[0], l[1]
				a.mustRefuse(t, far, m, full, f, api.ErrArg)
			}
			clear(x)
			x[1] = -k
			a.mustTake(t, far, m, full, f)
		}
	}
}

// Without pulses there is no vector but that of noughts.
func TestVectorsWithoutPulses(t *testing.T) {
	a := newAll()
	for _, m := range modes {
		base := mustFit(t, 5, m, full, pack.Wish{})
		if base.K != (pulses{}) || base.F != 0 {
			t.Fatal(base)
		}
		for ch := range base.X {
			for i := range base.X[ch] {
				for _, x := range []int{math.MinInt, -1, 1, math.MaxInt} {
					f := base
					f.X[ch][i] = x
					a.mustRefuse(t, 5, m, full, f, api.ErrArg)
				}
			}
		}
	}
}

func TestWhatTheModeHasNot(t *testing.T) {
	t.Parallel()
	a := newAll()
	for _, m := range modes {
		for _, size := range []int{4, 8, 16, 40, 1275} {
			base := mustFit(t, size, m, full, chanceWish(size))
			for i := range parts(&base) {
				for _, n := range ints {
					f := base
					*parts(&f)[i] = n
					if !none(f, m) {
						a.mustRefuse(t, size, m, full, f, api.ErrArg)
					}
				}
			}
		}
	}
}

func TestFramesThatDontFit(t *testing.T) {
	a := newAll()
	seen := map[api.Errno]int{}
	w := pack.Wish{Intra: true, Steps: [2][5]int8{{7, 7, 7, -7, 7}, {-7, 7, 7, 7, -7}}}
	for _, m := range modes {
		for size := 4; size < 20; size++ {
			f, got := a.mustPut(t, size, m, full, w)
			seen[got.e]++
			if got.e != api.ErrFull {
				continue
			}
			// What can't be put is told ahead of what doesn't fit.
			for i := range parts(&f) {
				for _, n := range []int{-1, 1, 1000} {
					g := f
					if *parts(&g)[i] += n; g.Trim == f.Trim {
						a.mustRefuse(t, size, m, full, g, writtenByWords(size, m, full, g).e)
						if writtenByWords(size, m, full, g).e == api.OK {
							t.Fatal(size, m, g)
						}
					}
				}
			}
			for _, spread := range []int{-1, 4} {
				g := f
				g.Spread = spread
				a.mustRefuse(t, size, m, full, g, api.ErrArg)
			}
			f.F = 1
			a.mustRefuse(t, size, m, full, f, api.ErrArg)
		}
	}
	if seen[api.ErrFull] < 10 || seen[api.OK] < 10 {
		t.Error(seen)
	}
}

// A packet that is filled to its last bit, and one that lacks a single one.
func TestTheLastBit(t *testing.T) {
	a := newAll()
	var lefts [17]int
	c := chance(17)
	for range 4000 {
		m, prev, size := modes[c.next(len(modes))], c.levels(), 4+c.next(16)
		f, got := a.mustPut(t, size, m, prev, c.wish(7))
		p := newPaper(size)
		p.number(first(f), 32)
		if !f.Silent {
			p.sounding(m, prev, f)
		}
		left := p.left()
		if left >= -8 && left <= 8 {
			lefts[left+8]++
		}
		if (left < 0) != (got.e == api.ErrFull) {
			t.Fatal(size, m, left, got.e)
		}
	}
	if lefts[8] == 0 || lefts[0] == 0 {
		t.Error(lefts)
	}
}
