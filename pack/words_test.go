package pack_test

import (
	"cmp"
	"math/big"
	"slices"

	"spinet/api"
	"spinet/frame"
	"spinet/mode"
	"spinet/pack"
)

// This file is the chapter's words, and those of the layers below, worked out
// anew: nothing of the program but its types is asked.

// levels are the energies, or the fine numbers, of a frame.
type levels = [api.MaxChans][api.MaxBands]int

// pulses are those of the bands.
type pulses = [api.MaxBands]int

// wide are how wide the bands are, starts where they begin, most how many
// pulses they may have.
var (
	wide   = [api.MaxBands]int{2, 2, 4, 8, 16}
	starts = [api.MaxBands]int{0, 2, 4, 8, 16}
	most   = pulses{32, 32, 32, 10, 10}
)

func right(m mode.Mode) bool {
	return 0 <= m.Size && m.Size <= 2 && 1 <= m.Chans && m.Chans <= 2
}

// bandsOf is how many bands a mode has.
func bandsOf(m mode.Mode) int { return 3 + m.Size }

// samplesOf is how many numbers a channel of a mode has.
func samplesOf(m mode.Mode) int { return 8 << m.Size }

// paper is a writer by the words of layer 6: its bytes are one number.
type paper struct {
	size     int
	rng, low int64
	bytes    *big.Int
	count    int
	raws     []byte
}

func newPaper(size int) *paper { return &paper{size: size, rng: 1 << 24, bytes: new(big.Int)} }

func (p *paper) symbol(from, to, total int) {
	r := p.rng / int64(total)
	p.low += int64(from) * r
	if to == total {
		p.rng -= int64(from) * r
	} else {
		p.rng = int64(to-from) * r
	}
	if p.low >= 1<<24 {
		p.low -= 1 << 24
		p.bytes.Add(p.bytes, big.NewInt(1))
	}
	for p.rng <= 1<<16 {
		p.bytes.Lsh(p.bytes, 8)
		p.bytes.Add(p.bytes, big.NewInt(p.low/(1<<16)))
		p.count++
		p.low = p.low % (1 << 16) * 256
		p.rng *= 256
	}
}

func (p *paper) raw(x, n int) {
	for range n {
		p.raws = append(p.raws, byte(x%2))
		x /= 2
	}
}

func (p *paper) left() int { return 8*p.size - 24 - 8*p.count - len(p.raws) }

func (p *paper) packet() []byte {
	packet := make([]byte, p.size)
	whole := new(big.Int).Lsh(p.bytes, 24)
	whole.Add(whole, big.NewInt(p.low))
	whole.FillBytes(packet[:p.count+3])
	for i, bit := range p.raws {
		packet[p.size-1-i/8] += bit << (i % 8)
	}
	return packet
}

// number puts a number below a total, by layer 9's words.
func (p *paper) number(v, total int) {
	if total <= 256 {
		p.symbol(v, v+1, total)
		return
	}
	raw := 0
	for left := total - 1; left >= 256; left /= 2 {
		raw++
	}
	p.symbol(v>>raw, v>>raw+1, (total-1)>>raw+1)
	p.raw(v%(1<<raw), raw)
}

// steps are all of them in their order, each with its symbol of 64.
var steps = []struct{ v, from, to int }{
	{0, 0, 20}, {1, 20, 29}, {-1, 29, 38}, {2, 38, 43}, {-2, 43, 48}, {3, 48, 51}, {-3, 51, 54}, {4, 54, 56},
	{-4, 56, 58}, {5, 58, 59}, {-5, 59, 60}, {6, 60, 61}, {-6, 61, 62}, {7, 62, 63}, {-7, 63, 64},
}

func (p *paper) step(v int) {
	for _, s := range steps {
		if s.v == v {
			p.symbol(s.from, s.to, 64)
			return
		}
	}
	panic("no step")
}

// choose is in how many ways k of n things are taken.
func choose(n, k int) int {
	ways := 1
	for i := range k {
		ways = ways * (n - i) / (i + 1)
	}
	return ways
}

// there are how many vectors there are of up to 8 numbers, by those of their
// numbers that aren't 0: which they are, their signs, and how the pulses are
// parted among them.
var there = func() (l [9][33]int) {
	for n := range l {
		l[n][0] = 1
		for k := 1; k < len(l[n]); k++ {
			for some := 1; some <= min(n, k); some++ {
				l[n][k] += choose(n, some) * choose(k-1, some-1) << some
			}
		}
	}
	return l
}()

// order is that of the numbers of magnitudes up to k: 0, 1, -1, 2, -2 and so on.
func order(k int) []int {
	l := []int{0}
	for magnitude := 1; magnitude <= k; magnitude++ {
		l = append(l, magnitude, -magnitude)
	}
	return l
}

func abs(x int) int { return max(x, -x) }

// sum is how many pulses a vector has whose numbers aren't great.
func sum(x []int) int {
	s := 0
	for _, number := range x {
		s += abs(number)
	}
	return s
}

// rankOf is how many vectors go ahead of one.
func rankOf(x []int) int {
	rank, k := 0, sum(x)
	for i, number := range x {
		for _, ahead := range order(k) {
			if ahead == number {
				break
			}
			rank += there[len(x)-i-1][k-abs(ahead)]
		}
		k -= abs(number)
	}
	return rank
}

// vector is that of a rank.
func vector(n, k, rank int) []int {
	var x []int
	for len(x) < n {
		for _, number := range order(k) {
			same := there[n-len(x)-1][k-abs(number)]
			if rank < same {
				x, k = append(x, number), k-abs(number)
				break
			}
			rank -= same
		}
	}
	return x
}

// vector puts a vector.
func (p *paper) vector(x []int) {
	k := sum(x)
	switch {
	case k == 0:
	case len(x) <= 8:
		p.number(rankOf(x), there[len(x)][k])
	default:
		p.number(sum(x[:len(x)/2]), k+1)
		p.vector(x[:len(x)/2])
		p.vector(x[len(x)/2:])
	}
}

// costs are what pulses cost as literals, by how wide the band is.
var costs = map[int][]int{
	2:  {0, 3, 4, 5, 5, 6, 6, 6, 6, 7, 7, 7, 7, 7, 7, 7, 7, 8, 8, 8, 8, 8, 8, 8, 8, 8, 8, 8, 8, 8, 8, 8, 8},
	4:  {0, 4, 6, 8, 9, 10, 11, 11, 12, 12, 13, 13, 14, 14, 14, 15, 15, 15, 15, 16, 16, 16, 16, 16, 17, 17, 17, 17, 17, 17, 18, 18, 18},
	8:  {0, 5, 8, 11, 13, 15, 16, 18, 19, 20, 21},
	16: {0, 7, 13, 16, 20, 23, 26, 28, 31, 33, 35},
}

// pulse is one that may be given.
type pulse struct{ level, band int }

// inTurn are all pulses that may be given, by how many bands there are and by
// the trim, in the order in which they are looked at.
var inTurn = func() (all [api.MaxBands + 1][8][]pulse) {
	for bands := 3; bands <= 5; bands++ {
		for trim := range 8 {
			var l []pulse
			for band := range bands {
				for p := 1; p <= most[band]; p++ {
					l = append(l, pulse{p * (64/wide[band] + (8-trim)*band), band})
				}
			}
			slices.SortFunc(l, func(a, b pulse) int {
				return cmp.Or(cmp.Compare(a.level, b.level), cmp.Compare(a.band, b.band))
			})
			all[bands][trim] = l
		}
	}
	return all
}()

// shared is what each band gets of a budget, by layer 14's words.
func shared(m mode.Mode, trim, budget int) pulses {
	k, sum := pulses{}, 0
	for _, p := range inTurn[bandsOf(m)][trim] {
		row := costs[wide[p.band]]
		sum += (row[k[p.band]+1] - row[k[p.band]]) * m.Chans
		if sum > budget {
			break
		}
		k[p.band]++
	}
	return k
}

// fineBits are how many there are when so many bits are left.
func fineBits(left int, m mode.Mode) int { return max(0, min(3, left/(64*m.Chans))) }

// guessed is what is guessed of an energy.
func guessed(f frame.Frame, prev levels, ch, band int) int {
	switch {
	case f.Intra && band == 0:
		return 8
	case f.Intra:
		return f.E[ch][band-1]
	}
	return prev[ch][band]
}

// first is the number with which a frame begins.
func first(f frame.Frame) int {
	n := 4 * f.Spread
	if f.Intra {
		n += 2
	}
	if f.Silent {
		n++
	}
	return n
}

// written is what Write answers.
type written struct {
	packet []byte
	seed   uint32
	e      api.Errno
}

func refused(e api.Errno) written { return written{e: e} }

// none tells whether all that a mode hasn't is 0.
func none(f frame.Frame, m mode.Mode) bool {
	for band := range api.MaxBands {
		for ch := range api.MaxChans {
			if (band >= bandsOf(m) || ch >= m.Chans) && (f.E[ch][band] != 0 || f.Q[ch][band] != 0) {
				return false
			}
		}
		if band >= bandsOf(m) && f.K[band] != 0 {
			return false
		}
	}
	for ch := range api.MaxChans {
		for i, x := range f.X[ch] {
			if (ch >= m.Chans || i >= samplesOf(m)) && x != 0 {
				return false
			}
		}
	}
	return true
}

// place is a band of a channel.
type place struct{ ch, band int }

// places are those of a mode, in the order in which they are put.
func places(m mode.Mode) []place {
	var l []place
	for band := range bandsOf(m) {
		for ch := range m.Chans {
			l = append(l, place{ch, band})
		}
	}
	return l
}

// writtenByWords is what Write answers by the chapter's words.
func writtenByWords(size int, m mode.Mode, prev levels, f frame.Frame) written {
	switch {
	case size < 4 || size > 1275:
		return refused(api.ErrRange)
	case !right(m) || f.Spread < 0 || f.Spread > 3:
		return refused(api.ErrArg)
	}
	p := newPaper(size)
	p.number(first(f), 32)
	seed := p.rng
	if f.Silent {
		if f != (frame.Frame{Silent: true, Intra: f.Intra, Spread: f.Spread}) {
			return refused(api.ErrArg)
		}
	} else {
		ok := false
		if seed, ok = p.sounding(m, prev, f); !ok || !none(f, m) {
			return refused(api.ErrArg)
		}
	}
	if p.left() < 0 {
		return refused(api.ErrFull)
	}
	return written{p.packet(), uint32(seed), api.OK}
}

// sounding puts what stands behind the first number of a frame that isn't
// silent, and tells its seed; false, if it can't be put.
func (p *paper) sounding(m mode.Mode, prev levels, f frame.Frame) (int64, bool) {
	if f.Trim < 0 || f.Trim > 7 {
		return 0, false
	}
	p.number(f.Trim, 8)
	for _, at := range places(m) {
		e, guess := f.E[at.ch][at.band], guessed(f, prev, at.ch, at.band)
		if e < 0 || e > 31 || e < guess-7 || e > guess+7 {
			return 0, false
		}
		p.step(e - guess)
	}
	if f.F != fineBits(p.left(), m) {
		return 0, false
	}
	for _, at := range places(m) {
		q := f.Q[at.ch][at.band]
		if q < 0 || q > 1<<f.F-1 {
			return 0, false
		}
		p.raw(q, f.F)
	}
	if f.K != shared(m, f.Trim, p.left()-16) {
		return 0, false
	}
	seed := p.rng
	for _, at := range places(m) {
		from := starts[at.band]
		x := f.X[at.ch][from : from+wide[at.band]]
		for _, number := range x {
			// Of greater ones the magnitudes can't be added up.
			if number < -32 || number > 32 {
				return 0, false
			}
		}
		if sum(x) != f.K[at.band] {
			return 0, false
		}
		p.vector(x)
	}
	return seed, true
}

// byNumber is the vector that is by a number.
func byNumber(n, k int, number uint64) []int {
	if n <= 8 {
		return vector(n, k, int(number%uint64(there[n][k])))
	}
	former, rest := int(number%uint64(k+1)), number/uint64(k+1)
	return append(byNumber(n/2, former, rest), byNumber(n/2, k-former, rest)...)
}

// fittedByWords is the frame of a wish by the chapter's words, in a mode that
// is right and a size that may be.
func fittedByWords(size int, m mode.Mode, prev levels, w pack.Wish) frame.Frame {
	f := frame.Frame{Silent: w.Silent, Intra: w.Intra, Spread: int(w.Spread) % 4}
	if f.Silent {
		return f
	}
	p := newPaper(size)
	p.number(first(f), 32)
	f.Trim = int(w.Trim) % 8
	p.number(f.Trim, 8)
	for _, at := range places(m) {
		guess, step := guessed(f, prev, at.ch, at.band), int(w.Steps[at.ch][at.band])
		e := max(0, min(31, guess+max(-7, min(7, step))))
		f.E[at.ch][at.band] = e
		p.step(e - guess)
	}
	f.F = fineBits(p.left(), m)
	for _, at := range places(m) {
		f.Q[at.ch][at.band] = int(w.Fines[at.ch][at.band]) % (1 << f.F)
		p.raw(f.Q[at.ch][at.band], f.F)
	}
	f.K = shared(m, f.Trim, p.left()-16)
	for _, at := range places(m) {
		copy(f.X[at.ch][starts[at.band]:], byNumber(wide[at.band], f.K[at.band], w.Ranks[at.ch][at.band]))
	}
	return f
}
