package frame_test

import (
	"cmp"
	"slices"

	"spinet/api"
	"spinet/frame"
	"spinet/mode"
)

// This file is the chapter's words, and those of the layers below, worked out
// anew: nothing of the program but its types is asked.

// levels are the energies, or the fine numbers, of a frame.
type levels = [api.MaxChans][api.MaxBands]int

// pulses are those of the bands.
type pulses = [api.MaxBands]int

// wide are how wide the bands are, starts where they begin, most how many
// pulses they may have.
var (
	wide   = [api.MaxBands]int{2, 2, 4, 8, 16}
	starts = [api.MaxBands]int{0, 2, 4, 8, 16}
	most   = pulses{32, 32, 32, 10, 10}
)

// bandsOf is how many bands a mode has.
func bandsOf(m mode.Mode) int { return 3 + m.Size }

// words is a source by the words of layer 7, with numbers that never go round.
type words struct {
	bytes                   []byte
	rng, value, taken, raws int
}

func wordsOf(b []byte) *words {
	w := &words{bytes: b, rng: 1 << 24}
	for range 3 {
		w.shift()
	}
	return w
}

// shift takes the next byte; those behind the end are noughts.
func (w *words) shift() {
	w.value *= 256
	if w.taken < len(w.bytes) {
		w.value += int(w.bytes[w.taken])
	}
	w.taken++
}

func (w *words) left() int { return 8*len(w.bytes) - 8*w.taken - w.raws }

func (w *words) look(total int) int { return min(w.value/(w.rng/total), total-1) }

func (w *words) take(from, to, total int) {
	r := w.rng / total
	w.value -= from * r
	w.rng -= from * r
	if to != total {
		w.rng = (to - from) * r
	}
	w.value = max(0, min(w.value, w.rng-1))
	for w.rng <= 1<<16 {
		w.rng *= 256
		w.shift()
	}
}

func (w *words) raw(n int) int {
	x := 0
	for i := range n {
		if at := len(w.bytes) - 1 - w.raws/8; at >= 0 {
			x += int(w.bytes[at]) / (1 << (w.raws % 8)) % 2 * (1 << i)
		}
		w.raws++
	}
	return x
}

// form is the symbols and the raw bits of a total, by layer 9's words.
func form(total int) (symbols, raw int) {
	if total <= 256 {
		return total, 0
	}
	for left := total - 1; left >= 256; left /= 2 {
		raw++
	}
	return (total-1)/(1<<raw) + 1, raw
}

// number is a number below a total.
func (w *words) number(total int) (int, bool) {
	symbols, raw := form(total)
	v := w.look(symbols)
	w.take(v, v+1, symbols)
	if raw > 0 {
		v = v*(1<<raw) + w.raw(raw)
	}
	return v, v < total
}

// steps are all of them in their order, each with its symbol of 64.
var steps = []struct{ v, from, to int }{
	{0, 0, 20}, {1, 20, 29}, {-1, 29, 38}, {2, 38, 43}, {-2, 43, 48}, {3, 48, 51}, {-3, 51, 54}, {4, 54, 56},
	{-4, 56, 58}, {5, 58, 59}, {-5, 59, 60}, {6, 60, 61}, {-6, 61, 62}, {7, 62, 63}, {-7, 63, 64},
}

func (w *words) step() int {
	at := w.look(64)
	for _, s := range steps {
		if at < s.to {
			w.take(s.from, s.to, 64)
			return s.v
		}
	}
	panic("a symbol above 64")
}

// choose is in how many ways k of n things are taken.
func choose(n, k int) int {
	ways := 1
	for i := range k {
		ways = ways * (n - i) / (i + 1)
	}
	return ways
}

// vectors is how many vectors there are, by those of their numbers that aren't
// 0: which they are, their signs, and how the pulses are parted among them.
func vectors(n, k int) int {
	if k == 0 {
		return 1
	}
	sum := 0
	for some := 1; some <= min(n, k); some++ {
		sum += choose(n, some) * choose(k-1, some-1) << some
	}
	return sum
}

// vector is that of a rank: each number is the first one, in the order 0, 1,
// -1, 2, -2 and so on, behind which there are enough.
func vector(n, k, rank int) []int {
	var x []int
	for len(x) < n {
		number, magnitude := 0, 0
		for {
			same := vectors(n-len(x)-1, k-magnitude)
			if rank < same {
				break
			}
			rank -= same
			if number > 0 {
				number = -number
			} else {
				magnitude++
				number = magnitude
			}
		}
		x = append(x, number)
		k -= magnitude
	}
	return x
}

// costs are what pulses cost as literals, by how wide the band is.
var costs = map[int][]int{
	2:  {0, 3, 4, 5, 5, 6, 6, 6, 6, 7, 7, 7, 7, 7, 7, 7, 7, 8, 8, 8, 8, 8, 8, 8, 8, 8, 8, 8, 8, 8, 8, 8, 8},
	4:  {0, 4, 6, 8, 9, 10, 11, 11, 12, 12, 13, 13, 14, 14, 14, 15, 15, 15, 15, 16, 16, 16, 16, 16, 17, 17, 17, 17, 17, 17, 18, 18, 18},
	8:  {0, 5, 8, 11, 13, 15, 16, 18, 19, 20, 21},
	16: {0, 7, 13, 16, 20, 23, 26, 28, 31, 33, 35},
}

// pulse is one that may be given.
type pulse struct{ level, band int }

// shared is what each band gets of a budget, by layer 14's words.
func shared(m mode.Mode, trim, budget int) pulses {
	var l []pulse
	for band := range bandsOf(m) {
		for p := 1; p <= most[band]; p++ {
			l = append(l, pulse{p * (64/wide[band] + (8-trim)*band), band})
		}
	}
	slices.SortFunc(l, func(a, b pulse) int {
		return cmp.Or(cmp.Compare(a.level, b.level), cmp.Compare(a.band, b.band))
	})
	k, sum := pulses{}, 0
	for _, p := range l {
		row := costs[wide[p.band]]
		sum += (row[k[p.band]+1] - row[k[p.band]]) * m.Chans
		if sum > budget {
			break
		}
		k[p.band]++
	}
	return k
}

// verdict is what becomes of a frame, and why.
type verdict int

const (
	good verdict = iota
	badFirst
	badNumber
	badLeft
)

// told is what a source tells: of a bad frame nothing but that.
type told struct {
	frame frame.Frame
	seed  uint32
	ok    bool
}

// byWords reads a frame by the chapter's words.
func byWords(w *words, m mode.Mode, prev levels) (told, verdict) {
	f, seed, v := w.read(m, prev)
	if v == good && w.left() < 0 {
		v = badLeft
	}
	if v != good {
		return told{}, v
	}
	return told{f, uint32(seed), true}, good
}

func (w *words) read(m mode.Mode, prev levels) (frame.Frame, int, verdict) {
	first, _ := w.number(32)
	if first >= 16 {
		return frame.Frame{}, 0, badFirst
	}
	f := frame.Frame{Silent: first%2 == 1, Intra: first/2%2 == 1, Spread: first / 4}
	if f.Silent {
		return f, w.rng, good
	}
	f.Trim, _ = w.number(8)
	for band := range bandsOf(m) {
		for ch := range m.Chans {
			f.E[ch][band] = max(0, min(31, guessed(f, prev, ch, band)+w.step()))
		}
	}
	if left := w.left(); left > 0 {
		f.F = min(3, left/(64*m.Chans))
	}
	for band := range bandsOf(m) {
		for ch := range m.Chans {
			f.Q[ch][band] = w.raw(f.F)
		}
	}
	f.K = shared(m, f.Trim, w.left()-16)
	seed := w.rng
	for band := range bandsOf(m) {
		for ch := range m.Chans {
			x, ok := w.vector(wide[band], f.K[band])
			if !ok {
				return frame.Frame{}, 0, badNumber
			}
			copy(f.X[ch][starts[band]:], x)
		}
	}
	return f, seed, good
}

// guessed is what is guessed of an energy.
func guessed(f frame.Frame, prev levels, ch, band int) int {
	switch {
	case f.Intra && band == 0:
		return 8
	case f.Intra:
		return f.E[ch][band-1]
	}
	return prev[ch][band]
}

// vector reads a vector; false, if a number is bad.
func (w *words) vector(n, k int) ([]int, bool) {
	if k == 0 {
		return make([]int, n), true
	}
	if n <= 8 {
		rank, ok := w.number(vectors(n, k))
		if !ok {
			return nil, false
		}
		return vector(n, k, rank), true
	}
	a, ok := w.number(k + 1)
	if !ok {
		return nil, false
	}
	former, ok := w.vector(n/2, a)
	if !ok {
		return nil, false
	}
	latter, ok := w.vector(n-n/2, k-a)
	return append(former, latter...), ok
}
