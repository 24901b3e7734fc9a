package pack_test

import (
	"math"
	"testing"

	"spinet/api"
	"spinet/frame"
	"spinet/pack"
)

func TestWishesOfSilence(t *testing.T) {
	t.Parallel()
	a := newAll()
	c := chance(1)
	for _, m := range modes {
		for _, size := range sizes {
			for spread := range 256 {
				w := c.wish(127)
				w.Silent, w.Spread = true, uint8(spread)
				f, got := a.mustPut(t, size, m, full, w)
				if f != (frame.Frame{Silent: true, Intra: w.Intra, Spread: spread % 4}) || got.e != api.OK {
					t.Fatal(size, m, w, f, got)
				}
			}
		}
	}
}

func TestWishesForSpreadsAndTrims(t *testing.T) {
	t.Parallel()
	a := newAll()
	for _, m := range modes {
		for n := range 256 {
			for _, w := range []pack.Wish{{Spread: uint8(n), Trim: 5}, {Spread: 2, Trim: uint8(n)}, {Spread: uint8(n), Trim: uint8(255 - n), Intra: true}} {
				f, _ := a.mustPut(t, 20, m, full, w)
				if f.Spread != int(w.Spread)%4 || f.Trim != int(w.Trim)%8 || f.Intra != w.Intra || f.Silent {
					t.Fatal(m, w, f)
				}
			}
		}
	}
}

func TestWishesForSteps(t *testing.T) {
	t.Parallel()
	a := newAll()
	for _, m := range modes {
		for _, guess := range []int{0, 3, 7, 8, 15, 24, 28, 31} {
			var prev levels
			for ch := range prev {
				prev[ch] = pulses{guess, guess, guess, guess, guess}
			}
			for step := math.MinInt8; step <= math.MaxInt8; step++ {
				for _, at := range places(m) {
					var w pack.Wish
					w.Steps[at.ch][at.band] = int8(step)
					f, got := a.mustPut(t, far, m, prev, w)
					if f.E[at.ch][at.band] != max(0, min(31, guess+max(-7, min(7, step)))) || got.e != api.OK {
						t.Fatal(m, guess, step, f)
					}
					if step < -9 && step > -126 || step > 9 && step < 126 {
						break
					}
				}
			}
		}
	}
	// Of one that stands for itself each is guessed by the one below.
	w := pack.Wish{Intra: true, Steps: [2][5]int8{{127, 8, 7, 100, 1}, {-128, -8, -7, 6, -1}}}
	f, _ := a.mustPut(t, far, at(2, 2), full, w)
	if f.E != (levels{{15, 22, 29, 31, 31}, {1, 0, 0, 6, 5}}) {
		t.Error(f.E)
	}
}

func TestWishesForFineNumbers(t *testing.T) {
	t.Parallel()
	a := newAll()
	var seen [4]int
	for _, m := range modes {
		for _, size := range []int{8, 16, 20, 25, 30, 40, 60} {
			for fine := range 256 {
				var w pack.Wish
				for ch := range w.Fines {
					for band := range w.Fines[ch] {
						w.Fines[ch][band] = uint8(fine + 51*band + 17*ch)
					}
				}
				f, _ := a.mustPut(t, size, m, full, w)
				seen[f.F]++
				for _, at := range places(m) {
					if f.Q[at.ch][at.band] != int(w.Fines[at.ch][at.band])%[4]int{1, 2, 4, 8}[f.F] {
						t.Fatal(m, size, w, f)
					}
				}
			}
		}
	}
	for bits, times := range seen {
		if times == 0 {
			t.Error("no frame had", bits, "fine bits")
		}
	}
}

// x are the numbers of a band.
func x(f frame.Frame, at place) []int {
	return f.X[at.ch][starts[at.band] : starts[at.band]+wide[at.band]]
}

// Of up to 8 numbers each rank comes round again behind the last one.
func TestWishesForRanks(t *testing.T) {
	a := newAll()
	for _, m := range modes {
		for _, size := range []int{8, 12, 16, 25, 1275} {
			for _, at := range places(m) {
				base := mustFit(t, size, m, full, pack.Wish{})
				n, k := wide[at.band], base.K[at.band]
				if n > 8 {
					continue
				}
				v := uint64(there[n][k])
				for _, i := range []uint64{0, 1, v / 2, v - 1, v, v + 1, 2*v - 1, 2 * v, 3*v + v/3, 1 << 32, 1<<32 + 1, 1 << 63, math.MaxInt64, math.MaxUint64 - 1, math.MaxUint64, math.MaxUint64 / v * v, math.MaxUint64/v*v - 1} {
					var w pack.Wish
					w.Ranks[at.ch][at.band] = i
					f, got := a.mustPut(t, size, m, full, w)
					if rank := uint64(rankOf(x(f, at))); rank != i%v || got.e != api.OK {
						t.Fatal(m, size, at, i, rank, f)
					}
				}
			}
		}
	}
}

// Of more than 8 numbers the number is first divided by K and 1, and then both
// halves go by the same one.
func TestWishesForWideBands(t *testing.T) {
	t.Parallel()
	a := newAll()
	seen := map[int]int{}
	for _, chans := range []int{1, 2} {
		m := at(2, chans)
		for size := 8; size < 60; size++ {
			base := mustFit(t, size, m, full, pack.Wish{})
			k := base.K[4]
			seen[k]++
			for ch := range chans {
				for former := range k + 1 {
					v, u := uint64(there[8][former]), uint64(there[8][k-former])
					for _, i := range []uint64{0, 1, v - 1, v, u - 1, u, u * v, u*v + 1, 1 << 33, math.MaxUint64/uint64(k+1) - 1} {
						var w pack.Wish
						w.Ranks[ch][4] = i*uint64(k+1) + uint64(former)
						f, got := a.mustPut(t, size, m, full, w)
						l := x(f, place{ch, 4})
						if sum(l[:8]) != former || uint64(rankOf(l[:8])) != i%v || uint64(rankOf(l[8:])) != i%u || got.e != api.OK {
							t.Fatal(m, size, ch, k, former, i, l)
						}
					}
				}
				for _, i := range []uint64{math.MaxUint64, math.MaxUint64 - 1, 1 << 63} {
					var w pack.Wish
					w.Ranks[ch][4] = i
					f, _ := a.mustPut(t, size, m, full, w)
					if l := x(f, place{ch, 4}); uint64(sum(l[:8])) != i%uint64(k+1) {
						t.Fatal(m, size, ch, k, i, l)
					}
				}
			}
		}
	}
	if seen[0] == 0 || seen[1] == 0 || seen[5] == 0 || seen[10] == 0 {
		t.Error(seen)
	}
}

// Of what the mode hasn't nobody asks.
func TestWishesForWhatTheModeHasNot(t *testing.T) {
	a := newAll()
	c := chance(5)
	for _, m := range modes {
		for _, size := range sizes {
			w := c.wish(4)
			f, _ := a.mustPut(t, size, m, full, w)
			v, prev := w, full
			for ch := range api.MaxChans {
				for band := range api.MaxBands {
					if ch >= m.Chans || band >= bandsOf(m) {
						v.Steps[ch][band] -= 3
						v.Fines[ch][band]++
						v.Ranks[ch][band] += 77
						prev[ch][band] = math.MinInt
					}
				}
			}
			if g := mustFit(t, size, m, prev, v); g != f || !none(f, m) {
				t.Fatal(size, m, w, f, g)
			}
			a.mustWrite(t, size, m, prev, f)
		}
	}
}

// plainWish is one without steps; what else there is of it is by chance.
func (c *chance) plainWish(spread, trim int, intra bool) pack.Wish {
	w := c.wish(0)
	w.Silent, w.Intra, w.Spread, w.Trim = false, intra, uint8(spread), uint8(trim)
	return w
}

// A wish without steps fits from 8 bytes on, and from 16 bytes on has pulses.
func TestWishesWithoutStepsFit(t *testing.T) {
	t.Parallel()
	c := chance(8)
	a := newAll()
	for _, m := range modes {
		for size := 8; size <= 1275; size++ {
			for trim := range 8 {
				if size > 100 && size < 1270 && trim != size%8 {
					continue
				}
				for _, intra := range []bool{false, true} {
					f, got := a.mustPut(t, size, m, c.levels(), c.plainWish(c.next(4), trim, intra))
					if got.e != api.OK || size >= 16 && f.K == (pulses{}) {
						t.Fatal(size, m, trim, intra, got.e, f)
					}
				}
			}
		}
	}
}

// All spreads and trims of the least sizes.
func TestWishesWithoutStepsInShortPackets(t *testing.T) {
	c := chance(9)
	a := newAll()
	for _, m := range modes {
		for _, size := range []int{8, 9, 15, 16, 17} {
			for spread := range 4 {
				for trim := range 8 {
					for _, intra := range []bool{false, true} {
						f, got := a.mustPut(t, size, m, c.levels(), c.plainWish(spread, trim, intra))
						if got.e != api.OK || size >= 16 && f.K == (pulses{}) {
							t.Fatal(size, m, spread, trim, intra, got.e, f)
						}
					}
				}
			}
		}
	}
}

// By chance: wishes of all kinds behind energies of all kinds.
func TestWishesByChance(t *testing.T) {
	t.Parallel()
	c := chance(3)
	a := newAll()
	seen := map[api.Errno]int{}
	for range 12000 {
		size := 4 + c.next(60)
		if c.next(10) == 0 {
			size = 4 + c.next(1272)
		}
		_, got := a.mustPut(t, size, modes[c.next(len(modes))], c.levels(), c.wish([]int{0, 1, 3, 7, 8, 30, 127}[c.next(7)]))
		seen[got.e]++
	}
	if seen[api.OK] < 1000 || seen[api.ErrFull] < 100 {
		t.Error(seen)
	}
}

// By chance: frames of wishes of which one number, or several, are others.
func TestFramesByChance(t *testing.T) {
	t.Parallel()
	c := chance(4)
	a := newAll()
	seen := map[api.Errno]int{}
	for range 4000 {
		size := 4 + c.next(60)
		m, prev := modes[c.next(len(modes))], c.levels()
		base := mustFit(t, size, m, prev, c.wish(7))
		for range 10 {
			f := base
			for range 1 + c.next(2) {
				l := append(parts(&f), &f.Spread, &f.Spread, &f.Trim, &f.Trim, &f.Trim)
				*l[c.next(len(l))] += c.next(5) - 2
			}
			switch c.next(20) {
			case 0:
				f.Silent = !f.Silent
			case 1:
				f.Intra = !f.Intra
			}
			seen[a.mustWrite(t, size, m, prev, f).e]++
		}
	}
	if seen[api.OK] < 1000 || seen[api.ErrArg] < 1000 || seen[api.ErrFull] < 100 {
		t.Error(seen)
	}
}

// Streams: what is put is the frame ahead of the next one.
func TestStreams(t *testing.T) {
	c := chance(6)
	a := newAll()
	for _, m := range modes {
		prev := levels{}
		for range 400 {
			size := 8 + c.next(50)
			w := c.wish(3)
			w.Silent = false
			f, got := a.mustPut(t, size, m, prev, w)
			if got.e == api.OK {
				prev = f.E
			}
		}
	}
}

// Nothing is kept from call to call, and what is answered is the caller's.
func TestCallsAreApart(t *testing.T) {
	c := chance(7)
	for range 300 {
		size, m, prev, w := 4+c.next(80), modes[c.next(len(modes))], c.levels(), c.wish(3)
		f, e := pack.Fit(size, m, prev, w)
		was, kept, wish := f, prev, w
		packet, seed, full := pack.Write(size, m, prev, f)
		if f != was || prev != kept || w != wish {
			t.Fatal("what was handed in is changed")
		}
		for i := range packet {
			packet[i] ^= 0xff
		}
		_ = append(packet[:0], 1, 2, 3)
		pack.Write(c.next(60), modes[c.next(len(modes))], c.levels(), frame.Frame{Spread: c.next(5)})
		again, same := pack.Fit(size, m, prev, w)
		if again != f || same != e {
			t.Fatal(again, f)
		}
		if want := writtenByWords(size, m, prev, f); want.e != full || want.seed != seed {
			t.Fatal(want, full, seed)
		}
		newAll().mustWrite(t, size, m, prev, f)
	}
}
