package frame_test

import (
	"slices"
	"testing"

	"spinet/api"
	"spinet/frame"
	"spinet/mode"
	"spinet/reader"
	"spinet/swift"
	"spinet/sym"
	"spinet/writer"
)

// at is the mode of a size and channels, right or not.
func at(size, chans int) mode.Mode { return mode.Mode{Size: size, Chans: chans} }

// modes are all that are right.
var modes = []mode.Mode{at(0, 1), at(0, 2), at(1, 1), at(1, 2), at(2, 1), at(2, 2)}

// chance gives numbers below a bound, always the same ones.
type chance uint64

func (c *chance) next(below int) int {
	*c = *c*6364136223846793005 + 1442695040888963407
	return int(*c>>33) % below
}

// bytes are so many.
func (c *chance) bytes(n int) []byte {
	b := make([]byte, n)
	for i := range b {
		b[i] = byte(c.next(256))
	}
	return b
}

// levels are energies, in what a mode hasn't too.
func (c *chance) levels() levels {
	var l levels
	for ch := range l {
		for band := range l[ch] {
			l[ch][band] = c.next(32)
		}
	}
	return l
}

// both are tools of either kind, which are asked again and again.
type both struct{ plain, quick frame.Tools }

func newBoth() both { return both{frame.Plain(), frame.Quick()} }

// view is all that is to be seen of a source.
type view struct {
	left                  int
	rng                   uint32
	two, some, many, most int
}

func see(s sym.Source) view {
	return view{s.Left(), s.Rng(), s.Get(2), s.Get(57), s.Get(1000), s.Get(4096)}
}

func seeWords(w *words) view {
	return view{w.left(), uint32(w.rng), w.look(2), w.look(57), w.look(1000), w.look(4096)}
}

func read[S sym.Source](s S, t frame.Tools, m mode.Mode, prev levels) told {
	f, seed, ok := frame.Read(s, t, m, prev)
	return told{f, seed, ok}
}

// mustRead reads bytes from either reader with either tools, and holds all to
// the words. Of a bad frame the words don't say what they leave, but all leave
// the same.
func (b both) mustRead(t *testing.T, bytes []byte, m mode.Mode, prev levels) (told, verdict) {
	t.Helper()
	w := wordsOf(bytes)
	want, why := byWords(w, m, prev)
	was := slices.Clone(bytes)
	var views []view
	var raws []uint32
	for _, tools := range []frame.Tools{b.plain, b.quick} {
		r, s := reader.New(bytes), swift.New(bytes)
		for i, got := range []told{read(r, tools, m, prev), read(s, tools, m, prev)} {
			if got != want {
				t.Fatalf("%x in %v behind %v, source %d with %T:\n%+v, not\n%+v", bytes, m, prev, i, tools, got, want)
			}
		}
		views = append(views, see(r), see(s))
		raws = append(raws, r.Raw(16), s.Raw(16))
	}
	if why == good || why == badLeft {
		views = append(views, seeWords(w))
		raws = append(raws, uint32(w.raw(16)))
	}
	for i := range views {
		if views[i] != views[0] || raws[i] != raws[0] {
			t.Fatalf("%x in %v behind %v: they leave %+v, %x", bytes, m, prev, views, raws)
		}
	}
	if !slices.Equal(bytes, was) {
		t.Fatalf("%x became %x", was, bytes)
	}
	mustFit(t, want.frame, m)
	return want, why
}

// mustFit holds a frame to its bounds: a vector has its band's pulses, and what
// the mode hasn't is 0.
func mustFit(t *testing.T, f frame.Frame, m mode.Mode) {
	t.Helper()
	rest := f
	for band := range bandsOf(m) {
		rest.K[band] = 0
		for ch := range m.Chans {
			x := rest.X[ch][starts[band] : starts[band]+wide[band]]
			sum := 0
			for _, number := range x {
				sum += max(number, -number)
			}
			e, q := f.E[ch][band], f.Q[ch][band]
			if sum != f.K[band] || e < 0 || e > 31 || q < 0 || q >= 1<<f.F {
				t.Fatalf("%v, channel %d, band %d: %+v", m, ch, band, f)
			}
			rest.E[ch][band], rest.Q[ch][band] = 0, 0
			clear(x)
		}
	}
	if want := (frame.Frame{Silent: f.Silent, Intra: f.Intra, Spread: f.Spread, Trim: f.Trim, F: f.F}); rest != want {
		t.Fatalf("%v: what it hasn't is %+v", m, rest)
	}
}

// wish is what a test puts.
type wish struct {
	first, trim int
	step        func(ch, band int) int
	fine        func(ch, band, total int) int
	// number picks each number of the vectors, below its total; one that isn't
	// is put too, if its symbol and raw bits can be.
	number func(total int) int
}

// always is a number, whatever is asked.
func always(n int) func(ch, band int) int { return func(_, _ int) int { return n } }

func lowest(int) int { return 0 }

func last(total int) int { return total - 1 }

func lastFine(_, _, total int) int { return total - 1 }

// put puts numbers as layer 9 says, and what layer 16 reads of them.
type put struct {
	*writer.Writer
	t *testing.T
}

func newPut(t *testing.T, size int) put {
	t.Helper()
	w, e := writer.New(size)
	if e != api.OK {
		t.Fatal(size, e)
	}
	return put{w, t}
}

func (p put) must(e api.Errno) {
	p.t.Helper()
	if e != api.OK {
		p.t.Fatal(e)
	}
}

func (p put) number(v, total int) {
	p.t.Helper()
	symbols, raw := form(total)
	p.must(p.Put(v>>raw, v>>raw+1, symbols))
	if raw > 0 {
		p.must(p.Raw(uint32(v%(1<<raw)), raw))
	}
}

func (p put) step(v int) {
	p.t.Helper()
	for _, s := range steps {
		if s.v == v {
			p.must(p.Put(s.from, s.to, 64))
			return
		}
	}
	p.t.Fatal("no step", v)
}

// vector puts a vector, and tells it: none, if a number of it is bad.
func (p put) vector(n, k int, w wish) []int {
	p.t.Helper()
	if k == 0 {
		return make([]int, n)
	}
	if n <= 8 {
		total := vectors(n, k)
		rank := w.number(total)
		p.number(rank, total)
		if rank >= total {
			return nil
		}
		return vector(n, k, rank)
	}
	a := w.number(k + 1)
	p.number(a, k+1)
	former, latter := p.vector(n/2, a, w), p.vector(n-n/2, k-a, w)
	if former == nil || latter == nil {
		return nil
	}
	return append(former, latter...)
}

// frame puts a frame, and tells it, and its seed; false, if a number is bad.
func (p put) frame(m mode.Mode, prev levels, w wish) (frame.Frame, uint32, bool) {
	p.t.Helper()
	p.number(w.first, 32)
	f := frame.Frame{Silent: w.first&1 != 0, Intra: w.first&2 != 0, Spread: w.first >> 2}
	if f.Silent {
		return f, p.Rng(), w.first < 16
	}
	p.number(w.trim, 8)
	f.Trim = w.trim
	for band := range bandsOf(m) {
		for ch := range m.Chans {
			step := w.step(ch, band)
			p.step(step)
			f.E[ch][band] = max(0, min(31, guessed(f, prev, ch, band)+step))
		}
	}
	f.F = max(0, min(3, p.Left()/(64*m.Chans)))
	for band := range bandsOf(m) {
		for ch := range m.Chans {
			q := w.fine(ch, band, 1<<f.F)
			p.must(p.Raw(uint32(q), f.F))
			f.Q[ch][band] = q
		}
	}
	f.K = shared(m, f.Trim, p.Left()-16)
	seed, ok := p.Rng(), w.first < 16
	for band := range bandsOf(m) {
		for ch := range m.Chans {
			x := p.vector(wide[band], f.K[band], w)
			ok = ok && x != nil
			copy(f.X[ch][starts[band]:], x)
		}
	}
	return f, seed, ok
}

// packetOf puts a wish into a packet.
func packetOf(t *testing.T, size int, m mode.Mode, prev levels, w wish) ([]byte, told) {
	t.Helper()
	p := newPut(t, size)
	f, seed, ok := p.frame(m, prev, w)
	b, e := p.Done()
	p.must(e)
	if !ok {
		return b, told{}
	}
	return b, told{f, seed, true}
}

// mustBePut puts a wish, and holds what is read of it to what was put.
func (b both) mustBePut(t *testing.T, size int, m mode.Mode, prev levels, w wish) told {
	t.Helper()
	bytes, want := packetOf(t, size, m, prev, w)
	got, why := b.mustRead(t, bytes, m, prev)
	if got != want {
		t.Fatalf("%x in %v behind %v: %d, %+v, not %+v", bytes, m, prev, why, got, want)
	}
	return got
}
