package sym_test

import (
	"fmt"
	"math"
	"testing"

	"spinet/api"
	"spinet/fix"
	"spinet/reader"
	"spinet/swift"
	"spinet/sym"
	"spinet/writer"
)

// Both readers are sources, and a writer is a sink.
var (
	_ sym.Source = (*reader.Reader)(nil)
	_ sym.Source = (*swift.Swift)(nil)
	_ sym.Sink   = (*writer.Writer)(nil)
)

// edges are the totals at which the form of a number changes, with their
// symbols and raw bits as literals.
var edges = []struct{ total, symbols, raw int }{
	{1, 1, 0}, {2, 2, 0}, {3, 3, 0}, {128, 128, 0}, {255, 255, 0}, {256, 256, 0},
	{257, 129, 1}, {258, 129, 1}, {259, 130, 1}, {510, 255, 1}, {511, 256, 1}, {512, 256, 1},
	{513, 129, 2}, {516, 129, 2}, {517, 130, 2}, {1000, 250, 2}, {1024, 256, 2}, {1025, 129, 3},
	{4095, 256, 4}, {4096, 256, 4}, {4097, 129, 5}, {1<<16 - 1, 256, 8}, {1 << 16, 256, 8}, {1<<16 + 1, 129, 9},
	{654321, 160, 12}, {1<<20 - 1, 256, 12}, {1 << 20, 256, 12}, {1<<23 + 1, 129, 16}, {1<<24 - 65536, 255, 16},
	{1<<24 - 65535, 256, 16}, {1<<24 - 1, 256, 16}, {1 << 24, 256, 16},
}

// steps are all of them in their order, each with its symbol of 64.
var steps = []struct{ v, from, to int }{
	{0, 0, 20}, {1, 20, 29}, {-1, 29, 38}, {2, 38, 43}, {-2, 43, 48}, {3, 48, 51}, {-3, 51, 54}, {4, 54, 56},
	{-4, 56, 58}, {5, 58, 59}, {-5, 59, 60}, {6, 60, 61}, {-6, 61, 62}, {7, 62, 63}, {-7, 63, 64},
}

// wrongTotals are those that there aren't.
var wrongTotals = []int{
	math.MinInt, math.MinInt + 1, -1 << 32, -1<<32 + 1, -1 << 24, -1000, -256, -2, -1, 0,
	1<<24 + 1, 1<<24 + 2, 1 << 25, 1 << 31, 1 << 32, 1<<32 + 1, 1<<32 + 256, 1<<32 + 1000, math.MaxInt - 1, math.MaxInt,
}

// wrongSteps are numbers that are no steps.
var wrongSteps = []int{
	math.MinInt, math.MinInt + 1, -1 << 32, -1<<32 - 7, -1<<32 + 7, -256, -64, -15, -14, -9, -8,
	8, 9, 14, 15, 20, 63, 64, 249, 256, 1 << 32, 1<<32 + 7, math.MaxInt - 1, math.MaxInt,
}

// form is the symbols and the raw bits of a total, as the chapter says them.
func form(total int) (symbols, raw int) {
	if total <= 256 {
		return total, 0
	}
	length := 0
	for left := total - 1; left > 0; left /= 2 {
		length++
	}
	raw = length - 8
	return (total-1)/(1<<raw) + 1, raw
}

func TestFormOfTheEdges(t *testing.T) {
	for _, c := range edges {
		if symbols, raw := form(c.total); symbols != c.symbols || raw != c.raw {
			t.Errorf("%d: %d symbols, %d raw bits, not %d, %d", c.total, symbols, raw, c.symbols, c.raw)
		}
	}
}

// fresh is a writer of a size.
func fresh(t *testing.T, size int) *writer.Writer {
	t.Helper()
	w, e := writer.New(size)
	if e != api.OK || w == nil {
		t.Fatal(size, e)
	}
	return w
}

// packet is what a writer has.
func packet(t *testing.T, w *writer.Writer) []byte {
	t.Helper()
	b, e := w.Done()
	if e != api.OK {
		t.Fatal(e)
	}
	return b
}

// looks are totals of which a source is asked to see where its value lies.
var looks = [...]int{1, 2, 3, 64, 255, 256, 257, 1000, 4095, 4096}

// view is all that a source answers without a change.
type view struct {
	rng  uint32
	left int
	gets [len(looks)]int
}

func see(s sym.Source) view {
	v := view{rng: s.Rng(), left: s.Left()}
	for i, total := range looks {
		v.gets[i] = s.Get(total)
	}
	return v
}

// readers are both sources of some bytes, and a reader with which the same is
// done by the calls of layer 7 alone.
type readers struct {
	r, by *reader.Reader
	s     *swift.Swift
}

func of(b []byte) readers { return readers{reader.New(b), reader.New(b), swift.New(b)} }

func (p readers) check(t *testing.T, what string) {
	t.Helper()
	if r, s, want := see(p.r), see(p.s), see(p.by); r != want || s != want {
		t.Fatalf("%s: %+v and %+v, not %+v", what, r, s, want)
	}
}

// wantUint reads a number as the chapter says it.
func (p readers) wantUint(total int) (int, bool) {
	symbols, raw := form(total)
	high := p.by.Get(symbols)
	p.by.Take(high, high+1, symbols)
	v := high
	if raw > 0 {
		v = high*(1<<raw) + int(p.by.Raw(raw))
	}
	if v < total {
		return v, true
	}
	return total - 1, false
}

// uint reads a number from both, and holds them to the chapter.
func (p readers) uint(t *testing.T, total int) (int, bool) {
	t.Helper()
	v, ok := sym.Uint(p.r, total)
	quick, is := sym.Uint(p.s, total)
	want, right := p.wantUint(total)
	if v != want || ok != right || quick != want || is != right {
		t.Fatalf("Uint of %d: %d, %t and %d, %t, not %d, %t", total, v, ok, quick, is, want, right)
	}
	p.check(t, fmt.Sprint("Uint of ", total))
	return v, ok
}

// wantStep reads a step by its row.
func (p readers) wantStep(t *testing.T) int {
	t.Helper()
	is := p.by.Get(64)
	for _, c := range steps {
		if c.from <= is && is < c.to {
			p.by.Take(c.from, c.to, 64)
			return c.v
		}
	}
	t.Fatal(is)
	return 0
}

// step reads a step from both, and holds them to the chapter.
func (p readers) step(t *testing.T) int {
	t.Helper()
	v, quick, want := sym.Step(p.r), sym.Step(p.s), p.wantStep(t)
	if v != want || quick != want {
		t.Fatalf("Step: %d and %d, not %d", v, quick, want)
	}
	p.check(t, "Step")
	return v
}

// call is one call of a source or a sink, with its numbers.
type call struct {
	name    string
	a, b, c int
}

// tape is a source that answers what it is told to, and a sink that does; it
// notes what was called.
type tape struct {
	get    int
	raw    uint32
	called []call
}

func (p *tape) note(name string, a, b, c int) { p.called = append(p.called, call{name, a, b, c}) }

func (p *tape) Left() int   { p.note("Left", 0, 0, 0); return 0 }
func (p *tape) Rng() uint32 { p.note("Rng", 0, 0, 0); return 0 }

type from struct{ *tape }

func (f from) Get(total int) int        { f.note("Get", total, 0, 0); return f.get }
func (f from) Take(from, to, total int) { f.note("Take", from, to, total) }
func (f from) Raw(n int) uint32         { f.note("Raw", n, 0, 0); return f.raw }

type into struct {
	*tape
	put, bits api.Errno
}

func (i into) Put(from, to, total int) api.Errno { i.note("Put", from, to, total); return i.put }
func (i into) Raw(x uint32, n int) api.Errno     { i.note("Raw", int(x), n, 0); return i.bits }

func checkCalls(t *testing.T, got []call, want ...call) {
	t.Helper()
	if fmt.Sprint(got) != fmt.Sprint(want) {
		t.Errorf("%v, not %v", got, want)
	}
}

func TestExample(t *testing.T) {
	w := fresh(t, 6)
	if e := sym.PutUint(w, 999, 1000); e != api.OK {
		t.Fatal(e)
	}
	by := fresh(t, 6)
	by.Put(249, 250, 250)
	by.Raw(3, 2)
	if *w != *by {
		t.Errorf("left %d, range %d, not %d, %d", w.Left(), w.Rng(), by.Left(), by.Rng())
	}
	if v, ok := of(packet(t, w)).uint(t, 1000); v != 999 || !ok {
		t.Error(v, ok)
	}
	note := into{tape: &tape{}}
	sym.PutUint(note, 999, 1000)
	checkCalls(t, note.called, call{"Put", 249, 250, 250}, call{"Raw", 3, 2, 0})
	read := from{&tape{get: 249, raw: 3}}
	if v, ok := sym.Uint(read, 1000); v != 999 || !ok {
		t.Error(v, ok)
	}
	checkCalls(t, read.called, call{"Get", 250, 0, 0}, call{"Take", 249, 250, 250}, call{"Raw", 2, 0, 0})
}

// A number of one symbol has no raw bits: nobody asks for them.
func TestOneSymbolAlone(t *testing.T) {
	for _, c := range []struct{ v, total int }{{0, 1}, {1, 2}, {63, 64}, {254, 255}, {255, 256}} {
		note, read := into{tape: &tape{}}, from{&tape{get: c.v, raw: 1}}
		if e := sym.PutUint(note, c.v, c.total); e != api.OK {
			t.Error(c, e)
		}
		if v, ok := sym.Uint(read, c.total); v != c.v || !ok {
			t.Error(c, v, ok)
		}
		checkCalls(t, note.called, call{"Put", c.v, c.v + 1, c.total})
		checkCalls(t, read.called, call{"Get", c.total, 0, 0}, call{"Take", c.v, c.v + 1, c.total})
	}
}

// starts are writers of several ranges, none of which is full.
func starts(t *testing.T) []writer.Writer {
	t.Helper()
	var l []writer.Writer
	for _, puts := range [][]int{{}, {2}, {3, 3}, {4096, 7}, {255, 255, 77}} {
		w := fresh(t, 30)
		w.Raw(5, 3)
		for _, total := range puts {
			w.Put(total-1, total, total)
		}
		l = append(l, *w)
	}
	return l
}

// checkPut puts a number, and holds the writer to one into which the same was
// put by the calls of layer 6 alone.
func checkPut(t *testing.T, start writer.Writer, v, total int) {
	t.Helper()
	w, by := start, start
	if e := sym.PutUint(&w, v, total); e != api.OK {
		t.Fatalf("PutUint of %d, %d: %d", v, total, e)
	}
	symbols, raw := form(total)
	high := v / (1 << raw)
	if by.Put(high, high+1, symbols) != api.OK || raw > 0 && by.Raw(uint32(v%(1<<raw)), raw) != api.OK {
		t.Fatal("refused", v, total)
	}
	if w != by {
		t.Fatalf("PutUint of %d, %d: left %d, range %d, not %d, %d", v, total, w.Left(), w.Rng(), by.Left(), by.Rng())
	}
}

// numbers are some below a total: the first, the last, and those about the
// bounds of symbols.
func numbers(total int) []int {
	_, raw := form(total)
	l := []int{0, total - 1}
	for _, v := range []int{1, 2, 254, 255, 256, 1<<raw - 1, 1 << raw, 1<<raw + 1, total / 3, total / 2, (total - 1) >> raw << raw, (total-1)>>raw<<raw - 1, total - 2} {
		if v > 0 && v < total {
			l = append(l, v)
		}
	}
	return l
}

func TestPutUintByDefinition(t *testing.T) {
	all := starts(t)
	for _, start := range all {
		for _, c := range edges {
			for _, v := range numbers(c.total) {
				checkPut(t, start, v, c.total)
			}
		}
	}
	for total := 1; total <= 1100; total++ {
		for _, v := range numbers(total) {
			checkPut(t, all[total%len(all)], v, total)
		}
	}
	for _, total := range []int{1, 2, 255, 256, 257, 258, 511, 512, 513, 1000} {
		for v := range total {
			checkPut(t, all[0], v, total)
		}
	}
}

func TestUintReadsWhatWasPut(t *testing.T) {
	check := func(v, total int) {
		w := fresh(t, 12)
		if e := sym.PutUint(w, v, total); e != api.OK {
			t.Fatal(v, total, e)
		}
		p := of(packet(t, w))
		if got, ok := p.uint(t, total); got != v || !ok {
			t.Fatalf("%d of %d: %d, %t", v, total, got, ok)
		}
		if p.r.Left() != w.Left() || p.s.Left() != w.Left() || p.r.Rng() != w.Rng() || p.s.Rng() != w.Rng() {
			t.Fatalf("%d of %d: left %d, range %d, not %d, %d", v, total, p.r.Left(), p.r.Rng(), w.Left(), w.Rng())
		}
	}
	for _, c := range edges {
		for _, v := range numbers(c.total) {
			check(v, c.total)
		}
	}
	for _, total := range []int{1, 2, 255, 256, 257, 258, 511, 512, 513, 1000} {
		for v := range total {
			check(v, total)
		}
	}
}

// What the numbers need is written out here once, and not by another layer.
func TestPackets(t *testing.T) {
	for i, c := range []struct {
		v, total int
		want     [8]byte
		left     int
		rng      uint32
	}{
		{0, 1, [8]byte{}, 40, 1 << 24},
		{1, 2, [8]byte{0x80}, 40, 1 << 23},
		{255, 256, [8]byte{0xff}, 32, 1 << 24},
		{0x5a, 256, [8]byte{0x5a}, 32, 1 << 24},
		{511, 512, [8]byte{0: 0xff, 7: 1}, 31, 1 << 24},
		{0x0b5, 512, [8]byte{0: 0x5a, 7: 1}, 31, 1 << 24},
		{0x5ac3, 1 << 16, [8]byte{0: 0x5a, 7: 0xc3}, 24, 1 << 24},
		{0x5ac381, 1 << 24, [8]byte{0: 0x5a, 6: 0xc3, 7: 0x81}, 16, 1 << 24},
		{1<<24 - 1, 1 << 24, [8]byte{0: 0xff, 6: 0xff, 7: 0xff}, 16, 1 << 24},
		{0, 1 << 24, [8]byte{}, 16, 1 << 24},
	} {
		w := fresh(t, 8)
		if e := sym.PutUint(w, c.v, c.total); e != api.OK || w.Left() != c.left || w.Rng() != c.rng {
			t.Errorf("row %d: %d, left %d, range %d", i, e, w.Left(), w.Rng())
		}
		if b := packet(t, w); [8]byte(b) != c.want {
			t.Errorf("row %d: % x", i, b)
		}
		r, s := reader.New(c.want[:]), swift.New(c.want[:])
		x, ok := sym.Uint(r, c.total)
		y, is := sym.Uint(s, c.total)
		if x != c.v || y != c.v || !ok || !is || r.Left() != c.left || s.Left() != c.left || r.Rng() != c.rng || s.Rng() != c.rng {
			t.Errorf("row %d: %d, %t and %d, %t", i, x, ok, y, is)
		}
	}
}

// Of each total, all that its last symbol and its raw bits can tell: what isn't
// below the total is bad.
func TestBadNumbers(t *testing.T) {
	for _, c := range edges {
		last := c.symbols - 1
		bad := 0
		for low := 0; low < 1<<c.raw; low += 1 + low/40 {
			for _, x := range []int{low, 1<<c.raw - 1 - low} {
				w := fresh(t, 8)
				w.Put(last, last+1, c.symbols)
				w.Raw(uint32(x), c.raw)
				got, ok := of(packet(t, w)).uint(t, c.total)
				want, right := last<<c.raw+x, true
				if want >= c.total {
					want, right = c.total-1, false
					bad++
				}
				if got != want || ok != right {
					t.Fatalf("%d, raw %d: %d, %t, not %d, %t", c.total, x, got, ok, want, right)
				}
			}
		}
		if full := c.total == c.symbols<<c.raw; full != (bad == 0) {
			t.Errorf("%d: %d bad ones", c.total, bad)
		}
	}
}

// A bad number is read all the same: what comes behind it is not moved.
func TestBehindABadNumber(t *testing.T) {
	w := fresh(t, 20)
	w.Put(128, 129, 129)
	w.Raw(1, 1)
	sym.PutUint(w, 777, 1000)
	sym.PutStep(w, -5)
	p := of(packet(t, w))
	if v, ok := p.uint(t, 257); v != 256 || ok {
		t.Error(v, ok)
	}
	if v, ok := p.uint(t, 1000); v != 777 || !ok {
		t.Error(v, ok)
	}
	if v := p.step(t); v != -5 || p.r.Left() != w.Left() || p.s.Rng() != w.Rng() {
		t.Error(v, p.r.Left(), w.Left())
	}
}

func TestWrongTotals(t *testing.T) {
	b := []byte{0x9c, 0x51, 0xfe, 0x03, 0x77, 0xc0, 0x1d, 0x42}
	p := of(b)
	p.uint(t, 1000)
	p.step(t)
	w := *fresh(t, 20)
	sym.PutUint(&w, 500, 1000)
	was := w
	for _, total := range wrongTotals {
		v, ok := sym.Uint(p.r, total)
		quick, is := sym.Uint(p.s, total)
		if v != 0 || ok || quick != 0 || is {
			t.Errorf("Uint of %d: %d, %t and %d, %t", total, v, ok, quick, is)
		}
		p.check(t, fmt.Sprint(total))
		read := from{&tape{get: 0, raw: 0}}
		if v, ok := sym.Uint(read, total); v != 0 || ok || len(read.called) != 0 {
			t.Error(total, v, ok, read.called)
		}
		for _, v := range []int{0, 1, -1, 255, total - 1, total, math.MinInt, math.MaxInt} {
			if e := sym.PutUint(&w, v, total); e != api.ErrArg || w != was {
				t.Errorf("PutUint of %d, %d: %d, changed %t", v, total, e, w != was)
			}
		}
	}
	// The next number is read as if nobody had asked.
	p.uint(t, 1<<24)
}

func TestWrongNumbers(t *testing.T) {
	w := *fresh(t, 20)
	sym.PutUint(&w, 500, 1000)
	was := w
	for _, c := range edges {
		for _, v := range []int{
			-1, -2, -c.total, -c.total - 1, math.MinInt, math.MinInt + 1, -1 << 32,
			c.total, c.total + 1, 2 * c.total, c.symbols << c.raw, 1 << 24, 1 << 25, 1 << 32, 1<<32 + c.total - 1, math.MaxInt,
		} {
			if e := sym.PutUint(&w, v, c.total); e != api.ErrArg || w != was {
				t.Errorf("PutUint of %d, %d: %d, changed %t", v, c.total, e, w != was)
			}
			note := into{tape: &tape{}}
			if sym.PutUint(note, v, c.total); len(note.called) != 0 {
				t.Error(v, c.total, note.called)
			}
		}
	}
}

func TestStepsFillTheirTotal(t *testing.T) {
	wide := []int{20, 9, 9, 5, 5, 3, 3, 2, 2, 1, 1, 1, 1, 1, 1}
	at := 0
	for i, c := range steps {
		v := (i + 1) / 2
		if i%2 == 0 {
			v = -v
		}
		if c.v != v || c.from != at || c.to != at+wide[i] {
			t.Error(i, c)
		}
		at = c.to
	}
	if len(steps) != 15 || at != 64 {
		t.Error(len(steps), at)
	}
}

func TestPutStep(t *testing.T) {
	for _, start := range starts(t) {
		for _, c := range steps {
			w, by := start, start
			if e := sym.PutStep(&w, c.v); e != api.OK {
				t.Fatal(c, e)
			}
			by.Put(c.from, c.to, 64)
			if w != by {
				t.Errorf("%d: left %d, range %d, not %d, %d", c.v, w.Left(), w.Rng(), by.Left(), by.Rng())
			}
			note := into{tape: &tape{}}
			sym.PutStep(note, c.v)
			checkCalls(t, note.called, call{"Put", c.from, c.to, 64})
		}
	}
}

func TestWrongSteps(t *testing.T) {
	w := *fresh(t, 20)
	sym.PutStep(&w, 3)
	was := w
	for _, v := range wrongSteps {
		if e := sym.PutStep(&w, v); e != api.ErrArg || w != was {
			t.Errorf("PutStep of %d: %d, changed %t", v, e, w != was)
		}
		note := into{tape: &tape{}}
		if sym.PutStep(note, v); len(note.called) != 0 {
			t.Error(v, note.called)
		}
	}
}

// Each symbol of 64 is read as the step in which it lies, by its whole width.
func TestEachSymbolOfAStep(t *testing.T) {
	seen := 0
	for _, c := range steps {
		for is := c.from; is < c.to; is++ {
			seen++
			w := fresh(t, 6)
			w.Put(is, is+1, 64)
			p := of(packet(t, w))
			if v := p.step(t); v != c.v {
				t.Errorf("symbol %d: %d, not %d", is, v, c.v)
			}
			whole := fresh(t, 6)
			sym.PutStep(whole, c.v)
			if p.r.Rng() != whole.Rng() || p.s.Rng() != whole.Rng() || p.r.Left() != whole.Left() || p.s.Left() != whole.Left() {
				t.Errorf("symbol %d: range %d, not %d", is, p.r.Rng(), whole.Rng())
			}
			read := from{&tape{get: is}}
			sym.Step(read)
			checkCalls(t, read.called, call{"Get", 64, 0, 0}, call{"Take", c.from, c.to, 64})
		}
	}
	if seen != 64 {
		t.Error(seen)
	}
}

// A range of 2^24 becomes a step's width times 2^18; the narrowest step twice
// needs a byte.
func TestStepRanges(t *testing.T) {
	for _, c := range steps {
		w := fresh(t, 4)
		sym.PutStep(w, c.v)
		if want := uint32(c.to-c.from) << 18; w.Rng() != want || w.Left() != 8 {
			t.Errorf("%d: range %d, left %d, not %d", c.v, w.Rng(), w.Left(), want)
		}
		if b := packet(t, w); b[0] != byte(c.from*4) || b[1] != 0 || b[2] != 0 || b[3] != 0 {
			t.Errorf("%d: % x", c.v, b)
		}
	}
	if w := fresh(t, 5); sym.PutStep(w, -7) != api.OK || sym.PutStep(w, -7) != api.OK || w.Rng() != 1<<20 || w.Left() != 8 {
		t.Error(w.Rng(), w.Left())
	}
}

// Behind the end there are noughts: numbers and steps of 0, and they count.
func TestBehindTheEnd(t *testing.T) {
	for _, b := range [][]byte{nil, {}, {0}, {0xff}, {0xff, 0xff, 0xff, 0xff}} {
		p := of(b)
		for range 300 {
			p.step(t)
			p.uint(t, 1<<24)
			p.uint(t, 257)
			p.uint(t, 255)
			p.uint(t, 1)
		}
		if p.r.Left() > -10000 || p.s.Left() > -10000 {
			t.Error(p.r.Left(), p.s.Left())
		}
	}
	p := of(nil)
	for i := range 200 {
		if v, ok := p.uint(t, 1<<24-1-i); v != 0 || !ok {
			t.Fatal(i, v, ok)
		}
		if v := p.step(t); v != 0 {
			t.Fatal(i, v)
		}
	}
}

// chance gives numbers that look like chance, the same in each run.
type chance uint32

func (c *chance) below(n int) int {
	*c = chance(fix.Lcg(uint32(*c)))
	high := int(uint32(*c) >> 16)
	*c = chance(fix.Lcg(uint32(*c)))
	return (high<<16 | int(uint32(*c)>>16)) % n
}

// total is one that there is, of those at edges more often than not.
func (c *chance) total() int {
	switch c.below(3) {
	case 0:
		return edges[c.below(len(edges))].total
	case 1:
		return 1 + c.below(1<<(1+c.below(24)))
	}
	return max(1, min(1<<c.below(25)+c.below(5)-2, 1<<24))
}

func TestAnyBytes(t *testing.T) {
	c := chance(9)
	for range 2000 {
		b := make([]byte, c.below(60))
		kind := c.below(4)
		for i := range b {
			b[i] = byte(c.below(256))
			if kind == 1 || kind == 2 && c.below(2) == 0 {
				b[i] = 0xff
			}
		}
		was := fmt.Sprint(b)
		p := of(b)
		for i := 0; p.r.Left() > -300 && i < 1000; i++ {
			if c.below(3) == 0 {
				p.step(t)
			} else {
				p.uint(t, c.total())
			}
		}
		if fmt.Sprint(b) != was {
			t.Fatal("the bytes were written into")
		}
	}
}

// item is a number below a total, or a step if the total is 0.
type item struct{ v, total int }

func (i item) put(w *writer.Writer) api.Errno {
	if i.total == 0 {
		return sym.PutStep(w, i.v)
	}
	return sym.PutUint(w, i.v, i.total)
}

// some is an item, with the last number and the last steps often.
func (c *chance) some() item {
	if c.below(3) == 0 {
		return item{c.below(15) - 7, 0}
	}
	total := c.total()
	switch c.below(4) {
	case 0:
		return item{total - 1, total}
	case 1:
		return item{0, total}
	}
	return item{c.below(total), total}
}

// What is put is read in order by both, numbers and steps mixed, and as much is
// left all the time as was left to the writer.
func TestReadsWhatWasPut(t *testing.T) {
	c := chance(99)
	for round := range 1500 {
		size := 4 + c.below(80)
		if round%50 == 0 {
			size = 4 + c.below(1272)
		}
		w := *fresh(t, size)
		var items []item
		var states []writer.Writer
		for range 2000 {
			next, was := c.some(), w
			if e := next.put(&w); e != api.OK {
				t.Fatal(next, e)
			}
			if w.Left() < 0 {
				w = was
				break
			}
			items, states = append(items, next), append(states, w)
		}
		p := of(packet(t, &w))
		for i, next := range items {
			v, ok := 0, true
			if next.total == 0 {
				v = p.step(t)
			} else {
				v, ok = p.uint(t, next.total)
			}
			if v != next.v || !ok || p.r.Left() != states[i].Left() || p.s.Left() != states[i].Left() || p.r.Rng() != states[i].Rng() || p.s.Rng() != states[i].Rng() {
				t.Fatalf("%d of %d, %+v: %d, %t, left %d, range %d", i, len(items), next, v, ok, p.r.Left(), p.r.Rng())
			}
		}
	}
}

// A writer that is over its size answers OK, and tells by Left and Done; what
// is wrong is refused all the same.
func TestOverItsSize(t *testing.T) {
	w := *fresh(t, 4)
	if e := sym.PutUint(&w, 5, 256); e != api.OK || w.Left() != 0 {
		t.Error(e, w.Left())
	}
	if e := sym.PutUint(&w, 0xabcdef, 1<<24); e != api.OK || w.Left() != -24 {
		t.Error(e, w.Left())
	}
	for v := -7; v <= 7; v++ {
		if e := sym.PutStep(&w, v); e != api.OK {
			t.Error(v, e)
		}
	}
	if b, e := w.Done(); b != nil || e != api.ErrFull || w.Left() >= -24 {
		t.Error(b, e, w.Left())
	}
	was := w
	if sym.PutStep(&w, 8) != api.ErrArg || sym.PutUint(&w, 5, 5) != api.ErrArg || sym.PutUint(&w, 0, 0) != api.ErrArg || w != was {
		t.Error("ErrArg")
	}
}

// What a sink refuses is told, and no raw bits come behind a symbol that is not
// there.
func TestWhatASinkAnswers(t *testing.T) {
	refuses := into{&tape{}, api.ErrFull, api.OK}
	if e := sym.PutUint(refuses, 7, 10); e != api.ErrFull {
		t.Error(e)
	}
	if e := sym.PutUint(refuses, 999, 1000); e != api.ErrFull {
		t.Error(e)
	}
	if e := sym.PutStep(refuses, 2); e != api.ErrFull {
		t.Error(e)
	}
	checkCalls(t, refuses.called, call{"Put", 7, 8, 10}, call{"Put", 249, 250, 250}, call{"Put", 38, 43, 64})
	refuses = into{&tape{}, api.OK, api.ErrFull}
	if e := sym.PutUint(refuses, 999, 1000); e != api.ErrFull {
		t.Error(e)
	}
	if e := sym.PutUint(refuses, 255, 256); e != api.OK {
		t.Error(e)
	}
	// What is wrong is asked ahead of the sink.
	if sym.PutUint(refuses, 5, 5) != api.ErrArg || sym.PutStep(refuses, -8) != api.ErrArg {
		t.Error("ErrArg")
	}
	checkCalls(t, refuses.called, call{"Put", 249, 250, 250}, call{"Raw", 3, 2, 0}, call{"Put", 255, 256, 256})
}

// A source of any type may answer symbols that there aren't: no number outside
// the total, and no step that is none, comes of it.
func TestWhatASourceAnswers(t *testing.T) {
	answers := []int{math.MinInt, -1 << 32, -65, -1, 64, 65, 250, 256, 257, 4096, 1 << 32, 1 << 48, 1<<62 + 1, math.MaxInt - 1, math.MaxInt}
	for _, get := range answers {
		for _, raw := range []uint32{0, 3, math.MaxUint32} {
			for _, c := range edges {
				v, ok := sym.Uint(from{&tape{get: get, raw: raw}}, c.total)
				if v < 0 || v >= c.total || !ok && v != c.total-1 {
					t.Errorf("%d, raw %d, of %d: %d, %t", get, raw, c.total, v, ok)
				}
				if get >= c.symbols && ok {
					t.Errorf("%d, raw %d, of %d: %d isn't bad", get, raw, c.total, v)
				}
			}
		}
		read := from{&tape{get: get}}
		if v := sym.Step(read); v < -7 || v > 7 {
			t.Errorf("%d: step %d", get, v)
		}
		if last := read.called[len(read.called)-1]; last.name != "Take" || last.a < 0 || last.b <= last.a || last.c != 64 || last.b > 64 {
			t.Error(get, last)
		}
	}
}

// Sources and sinks may be handed in as what they are, or as the interface.
func TestAsInterfaces(t *testing.T) {
	w := fresh(t, 8)
	var sink sym.Sink = w
	if sym.PutUint(sink, 999, 1000) != api.OK || sym.PutStep(sink, -3) != api.OK {
		t.Error("refused")
	}
	b := packet(t, w)
	for _, s := range []sym.Source{reader.New(b), swift.New(b)} {
		if v, ok := sym.Uint(s, 1000); v != 999 || !ok {
			t.Error(v, ok)
		}
		if v := sym.Step(s); v != -3 || s.Left() != w.Left() || s.Rng() != w.Rng() {
			t.Error(v, s.Left(), s.Rng())
		}
	}
}
