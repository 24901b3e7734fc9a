package swift_test

import (
	"bytes"
	"math"
	"testing"

	"spinet/api"
	"spinet/fix"
	"spinet/reader"
	"spinet/swift"
	"spinet/writer"
)

// call is a symbol, or raw bits if its total is 0.
type call struct {
	from, to, total int
	x               uint32
	n               int
}

func sym(from, to, total int) call { return call{from: from, to: to, total: total} }
func raw(x uint32, n int) call     { return call{x: x, n: n} }

// source is what both readers are.
type source interface {
	Get(total int) int
	Take(from, to, total int)
	Raw(n int) uint32
	Left() int
	Rng() uint32
}

// looks are the totals of which a reader is asked to see where its value lies:
// those that divide by shifts, and those that don't.
var looks = [...]int{1, 2, 3, 7, 64, 255, 256, 257, 1000, 2048, 4095, 4096}

// view is all that a reader answers without a change.
type view struct {
	rng  uint32
	left int
	gets [len(looks)]int
}

func see(s source) view {
	v := view{rng: s.Rng(), left: s.Left()}
	for i, total := range looks {
		v.gets[i] = s.Get(total)
	}
	return v
}

// both is a swift reader, and the reader of the same bytes to which it is held.
type both struct {
	s *swift.Swift
	r *reader.Reader
}

func of(b []byte) both { return both{swift.New(b), reader.New(b)} }

func (p both) check(t *testing.T) {
	t.Helper()
	if got, want := see(p.s), see(p.r); got != want {
		t.Fatalf("%+v, not %+v", got, want)
	}
}

func (p both) take(t *testing.T, from, to, total int) {
	t.Helper()
	p.s.Take(from, to, total)
	p.r.Take(from, to, total)
	if got, want := see(p.s), see(p.r); got != want {
		t.Fatalf("Take(%d, %d, %d): %+v, not %+v", from, to, total, got, want)
	}
}

func (p both) raw(t *testing.T, n int) {
	t.Helper()
	x, y := p.s.Raw(n), p.r.Raw(n)
	if x != y {
		t.Fatalf("Raw(%d): %x, not %x", n, x, y)
	}
	p.check(t)
}

func (p both) get(t *testing.T, total int) int {
	t.Helper()
	x, y := p.s.Get(total), p.r.Get(total)
	if x != y {
		t.Fatalf("Get(%d): %d, not %d", total, x, y)
	}
	return x
}

func TestExamples(t *testing.T) {
	s := swift.New([]byte{0x80, 0, 0, 0})
	if got := s.Get(2); got != 1 {
		t.Error(got)
	}
	s.Reset([]byte{0x7f, 0xff, 0xff, 0xff})
	if got := s.Get(2); got != 0 {
		t.Error(got)
	}
}

// What is behind each step stands here in numbers, and not by layer 7.
func TestRows(t *testing.T) {
	ones := []byte{0xff, 0xff, 0xff, 0x78, 0x9a, 0xbc}
	for i, c := range []struct {
		bytes      []byte
		takes      []call
		rng        uint32
		left       int
		a, b, c, d int // Get of 3, 256, 4095, 4096
	}{
		// No bytes at all, and fewer than three.
		{nil, nil, 1 << 24, -24, 0, 0, 0, 0},
		{[]byte{}, nil, 1 << 24, -24, 0, 0, 0, 0},
		{[]byte{0xab}, nil, 1 << 24, -16, 2, 171, 2735, 2736},
		{[]byte{0xab, 0xcd}, nil, 1 << 24, -8, 2, 171, 2748, 2748},
		{[]byte{0xab, 0xcd, 0xef}, nil, 1 << 24, 0, 2, 171, 2748, 2748},
		// A total that doesn't divide the range: what is over is the last symbol's.
		{[]byte{0xff, 0xff, 0xff}, nil, 1 << 24, 0, 2, 255, 4094, 4095},
		{[]byte{0x55, 0x55, 0x54}, nil, 1 << 24, 0, 0, 85, 1364, 1365},
		{[]byte{0x55, 0x55, 0x55}, nil, 1 << 24, 0, 1, 85, 1365, 1365},
		// A symbol that ends at its total, and one that doesn't.
		{[]byte{0xff, 0xff, 0xff}, []call{sym(2, 3, 3)}, 0x555556, 0, 2, 255, 4094, 4095},
		{[]byte{0xff, 0xff, 0xff}, []call{sym(0, 1, 1)}, 1 << 24, 0, 2, 255, 4094, 4095},
		{[]byte{0xaa, 0xaa, 0xaa}, []call{sym(2, 3, 3)}, 0x555556, 0, 0, 0, 0, 0},
		// Another symbol than that which is there: the value is held.
		{[]byte{0xaa, 0xaa, 0xaa}, []call{sym(1, 2, 3)}, 0x555555, 0, 2, 255, 4094, 4095},
		{[]byte{0, 0, 0}, []call{sym(2, 3, 3)}, 0x555556, 0, 0, 0, 0, 0},
		// A range of just 2^16 takes a byte, one of 2^16 and 1 none.
		{ones, []call{sym(255, 256, 256)}, 1 << 24, 16, 2, 255, 4094, 4095},
		{[]byte{0xff, 0xfe, 0xff, 0x78, 0x9a, 0xbc}, []call{sym(3, 12, 12), sym(191, 192, 192)}, 1<<16 + 1, 24, 2, 255, 4080, 4080},
		// A range of just 2^8 takes two bytes, one of 2^8 and 1 takes one.
		{ones, []call{sym(4095, 4096, 4096), sym(4095, 4096, 4096)}, 1 << 24, 0, 1, 120, 1929, 1929},
		{ones, []call{sym(0, 257, 4096), sym(0, 1, 4096)}, 257 << 8, 16, 2, 255, 4094, 4095},
		// Bytes behind the end.
		{[]byte{0xff, 0xff, 0xf0}, []call{sym(0, 1, 4096), sym(0, 1, 4096), sym(0, 1, 4096)}, 1 << 20, -32, 2, 255, 4094, 4095},
		{[]byte{1, 2, 3, 4, 5, 6}, []call{sym(0, 1, 4095), sym(0, 1, 4095), sym(0, 1, 4095)}, 0x100100, -8, 2, 255, 4094, 4095},
	} {
		s := swift.New(c.bytes)
		for _, take := range c.takes {
			s.Take(take.from, take.to, take.total)
		}
		got := [...]int{int(s.Rng()), s.Left(), s.Get(3), s.Get(256), s.Get(4095), s.Get(4096)}
		want := [...]int{int(c.rng), c.left, c.a, c.b, c.c, c.d}
		if got != want {
			t.Errorf("row %d: %v, not %v", i, got, want)
		}
	}
}

// counted are bytes that differ from their neighbours.
func counted(size int) []byte {
	b := make([]byte, size)
	for i := range b {
		b[i] = byte(i*7 + i/256 + 1)
	}
	return b
}

// sizes are those at which bytes stand elsewhere than others, or end early.
var sizes = []int{0, 1, 2, 3, 4, 5, 1273, 1274, 1275, 1276, 1277, 70000}

// Of a range of 2^24 each symbol of 256 is a byte: so all of the bytes are
// told one by one, and noughts behind the end.
func TestBytesOneByOne(t *testing.T) {
	for _, size := range sizes {
		b := counted(size)
		s := swift.New(b)
		b = append(b, make([]byte, 3000)...)
		for i := range size + 3000 {
			want := int(b[i])
			if got := s.Get(256); got != want || s.Left() != 8*(size-3-i) || s.Rng() != 1<<24 {
				t.Fatalf("%d bytes, byte %d: %d, not %d; left %d, range %d", size, i, got, want, s.Left(), s.Rng())
			}
			s.Take(want, want+1, 256)
		}
	}
}

// Two symbols of 4096 are three bytes: the first one takes one byte, and the
// second one two at once.
func TestBytesByTwo(t *testing.T) {
	for _, size := range sizes {
		b := counted(size)
		s := swift.New(b)
		b = append(b, make([]byte, 3000)...)
		for i := 0; i < size+2990; i += 3 {
			high, low := int(b[i])<<4|int(b[i+1]>>4), int(b[i+1]&15)<<8|int(b[i+2])
			if got := s.Get(4096); got != high || s.Left() != 8*(size-3-i) || s.Rng() != 1<<24 {
				t.Fatalf("%d bytes, byte %d: %d, not %d; left %d, range %d", size, i, got, high, s.Left(), s.Rng())
			}
			s.Take(high, high+1, 4096)
			if got := s.Get(4096); got != low || s.Left() != 8*(size-4-i) || s.Rng() != 1<<20 {
				t.Fatalf("%d bytes, byte %d and a half: %d, not %d; left %d, range %d", size, i, got, low, s.Left(), s.Rng())
			}
			s.Take(low, low+1, 4096)
		}
	}
}

func TestRawBitsInOrder(t *testing.T) {
	for _, size := range sizes {
		b := counted(size)
		for n := 1; n <= 16; n++ {
			if size > 2000 && n%5 != 1 {
				continue
			}
			s := swift.New(b)
			for at := 0; at < 8*size+100; at += n {
				want := uint32(0)
				for i := range n {
					if j := at + i; j < 8*size {
						want |= uint32(b[size-1-j/8]>>(j%8)) % 2 << i
					}
				}
				if got := s.Raw(n); got != want || s.Left() != 8*(size-3)-at-n {
					t.Fatalf("%d bytes, bit %d, %d at once: %x, not %x; left %d", size, at, n, got, want, s.Left())
				}
			}
		}
	}
}

func TestRawRows(t *testing.T) {
	for _, c := range []struct {
		bytes []byte
		reads []call
		left  int
	}{
		{[]byte{1, 2, 3, 0xa5}, []call{raw(0xa5, 8)}, 0},
		{[]byte{1, 2, 3, 0xa5}, []call{raw(1, 1), raw(2, 3), raw(0xa, 4)}, 0},
		{[]byte{0, 0, 0, 0, 0, 0x2f, 0xbb, 0xcd}, []call{raw(5, 3), raw(1, 1), raw(0, 2), raw(0xbeef, 16)}, 18},
		{[]byte{0xde, 0xad, 0xbe, 0xef}, []call{raw(0xbeef, 16), raw(0xdead, 16)}, -24},
		// Bits that have no byte, some of them and all of them.
		{[]byte{0xff}, []call{raw(0xff, 16), raw(0, 16)}, -48},
		{[]byte{0xff, 0xff}, []call{raw(0x1ff, 9), raw(0x7f, 16)}, -33},
		{nil, []call{raw(0, 16), raw(0, 1)}, -41},
	} {
		s := swift.New(c.bytes)
		for i, read := range c.reads {
			if got := s.Raw(read.n); got != read.x {
				t.Errorf("% x, read %d: %x, not %x", c.bytes, i, got, read.x)
			}
		}
		if s.Left() != c.left {
			t.Errorf("% x: left %d, not %d", c.bytes, s.Left(), c.left)
		}
	}
}

func TestRawNumbersAreHeld(t *testing.T) {
	numbers := []int{math.MinInt, math.MinInt + 1, -1 << 32, -1<<32 + 8, 1 << 32, 1<<32 + 8, 255, 256, 264, math.MaxInt - 1, math.MaxInt}
	for n := -70; n <= 70; n++ {
		numbers = append(numbers, n)
	}
	const all = 0xc3a5b60f
	for _, n := range numbers {
		held := min(max(n, 0), 16)
		s := swift.New([]byte{0xc3, 0xa5, 0xb6, 0x0f})
		got, left := s.Raw(n), s.Left()
		next := s.Raw(16)
		if got != all%(1<<held) || left != 8-held || next != uint32(all>>held)%(1<<16) {
			t.Errorf("Raw(%d): %x, left %d, then %x", n, got, left, next)
		}
		p := of([]byte{0xc3, 0xa5, 0xb6, 0x0f})
		p.raw(t, 5)
		p.raw(t, n)
		p.raw(t, n)
	}
}

func TestGetTotals(t *testing.T) {
	totals := []int{math.MinInt, math.MinInt + 1, -1 << 32, -1<<32 + 2, 1 << 32, 1<<32 + 2, 1<<16 + 2, 1 << 24, 1 << 25, math.MaxInt}
	for total := -100; total <= 9000; total++ {
		totals = append(totals, total)
	}
	s := swift.New([]byte{0xff, 0xff, 0xff})
	p := of([]byte{0xff, 0xff, 0xff, 0x12, 0x34, 0x56, 0x78})
	for range 5 {
		for _, total := range totals {
			want := 0
			if total >= 1 && total <= 4096 {
				want = total - 1
			}
			if got := s.Get(total); got != want {
				t.Fatalf("Get(%d): %d", total, got)
			}
			p.get(t, total)
		}
		s.Take(2, 3, 3)
		p.take(t, 200, 203, 204)
	}
}

// Each total, whether it is a power of two or not, of ranges that are and that
// aren't: so each of both divisions is done by a shift, and isn't.
func TestEachTotal(t *testing.T) {
	b := []byte{0x9c, 0x51, 0xfe, 0x03, 0x77, 0xc0, 0x1d, 0x42}
	starts := [][]call{nil, {sym(1, 2, 2)}, {sym(2, 5, 7)}, {sym(300, 400, 4096)}, {sym(2, 3, 3), sym(77, 80, 100)}}
	for _, start := range starts {
		p := of(b)
		for _, c := range start {
			p.take(t, c.from, c.to, c.total)
		}
		for total := 1; total <= api.MaxTotal; total++ {
			is := p.get(t, total)
			for _, c := range []call{sym(is, is+1, total), sym(0, 1, total), sym(total-1, total, total), sym(is/2, is+1, total), sym(is, total, total)} {
				s, r := *p.s, *p.r
				both{&s, &r}.take(t, c.from, c.to, c.total)
			}
		}
	}
}

// A symbol that isn't right is not taken.
func TestTakeArguments(t *testing.T) {
	p := of([]byte{0x9c, 0x51, 0xfe, 0x03, 0x77, 0xc0, 0x1d, 0x42})
	p.take(t, 2, 5, 7)
	p.take(t, 4000, 4001, 4096)
	edges := []int{
		math.MinInt, math.MinInt + 1, -1 << 32, -1<<32 + 1, -4096, 255, 256, 257, 4094, 4095, 4096, 4097, 8192,
		1 << 16, 1 << 24, 1 << 31, 1 << 32, 1<<32 + 1, 1<<32 + 2, 1<<32 + 3, math.MaxInt - 1, math.MaxInt,
	}
	for x := -3; x <= 7; x++ {
		edges = append(edges, x)
	}
	was := see(p.s)
	for _, from := range edges {
		for _, to := range edges {
			for _, total := range edges {
				s, r := *p.s, *p.r
				both{&s, &r}.take(t, from, to, total)
				right := 0 <= from && from < to && to <= total && 1 <= total && total <= 4096
				if !right && see(&s) != was {
					t.Fatalf("Take(%d, %d, %d): %+v, not %+v", from, to, total, see(&s), was)
				}
			}
		}
	}
}

// Where the value was held is told by the bytes that come behind: of a range of
// 2^24 each symbol of 256 is one.
func TestValueIsHeld(t *testing.T) {
	low := []byte{0, 0, 0, 0x11, 0x22, 0x33, 0x44}
	middle := []byte{0x80, 0, 0, 0x11, 0x22, 0x33, 0x44}
	for i, c := range []struct {
		bytes  []byte
		takes  []call
		digits []int
	}{
		// The value lies above: it is the last place of the symbol.
		{middle, []call{sym(0, 1, 256)}, []int{0xff, 0xff, 0x11, 0x22, 0x33, 0x44, 0}},
		{middle, []call{sym(0, 1, 4096), sym(4095, 4096, 4096)}, []int{0x11, 0x22, 0x33, 0x44, 0}},
		{middle, []call{sym(0, 1, 4096), sym(0, 1, 4096)}, []int{0xff, 0x22, 0x33, 0x44, 0}},
		{middle, []call{sym(127, 128, 256)}, []int{0xff, 0xff, 0x11, 0x22, 0x33, 0x44, 0}},
		// It lies below: it is the first one.
		{middle, []call{sym(129, 130, 256)}, []int{0, 0, 0x11, 0x22, 0x33, 0x44, 0}},
		{middle, []call{sym(255, 256, 256)}, []int{0, 0, 0x11, 0x22, 0x33, 0x44, 0}},
		{middle, []call{sym(4095, 4096, 4096), sym(0, 1, 4096)}, []int{0x11, 0x22, 0x33, 0x44, 0}},
		{low, []call{sym(1, 2, 256)}, []int{0, 0, 0x11, 0x22, 0x33, 0x44, 0}},
		// It lies in the symbol, and is not held.
		{middle, []call{sym(128, 129, 256)}, []int{0, 0, 0x11, 0x22, 0x33, 0x44, 0}},
		{middle, []call{sym(2048, 2049, 4096), sym(0, 1, 4096)}, []int{0x11, 0x22, 0x33, 0x44, 0}},
	} {
		s := swift.New(c.bytes)
		for _, take := range c.takes {
			s.Take(take.from, take.to, take.total)
		}
		if s.Rng() != 1<<24 {
			t.Fatal(i, s.Rng())
		}
		for at, digit := range c.digits {
			if got := s.Get(256); got != digit {
				t.Errorf("row %d, byte %d: %x, not %x", i, at, got, digit)
			}
			s.Take(digit, digit+1, 256)
		}
	}
}

// What is asked changes nothing.
func TestAskingChangesNothing(t *testing.T) {
	b := []byte{0x9c, 0x51, 0xfe, 0x03, 0x77, 0xc0, 0x1d, 0x42}
	asked, left := swift.New(b), swift.New(b)
	c := chance(81)
	for i := range 200 {
		was := *asked
		for range 3 {
			for total := -2; total < 5000; total += 1 + c.below(700) {
				asked.Get(total)
			}
			asked.Left()
			asked.Rng()
		}
		if see(asked) != see(&was) {
			t.Fatal(i, see(asked), see(&was))
		}
		from := c.below(50)
		asked.Take(from, from+3, 53)
		left.Take(from, from+3, 53)
		n := c.below(20)
		if x, y := asked.Raw(n), left.Raw(n); x != y || see(asked) != see(left) {
			t.Fatal(i, x, y, see(asked), see(left))
		}
	}
}

// Bytes that are changed behind New or Reset, or lie behind those that were
// handed in, are not the swift reader's; and it writes into none.
func TestBytesAreItsOwn(t *testing.T) {
	for _, size := range []int{5, 1275, 1276, 5000} {
		store := append(counted(size), 0x77, 0xc0, 0x1d)
		was := bytes.Clone(store)
		used := swift.New(counted(9))
		used.Take(1, 2, 3)
		for _, reset := range []bool{false, true} {
			s := swift.New(store[:size])
			if reset {
				used.Reset(store[:size])
				s = used
			}
			p := both{s, reader.New(was[:size])}
			for i := range store {
				store[i] ^= 0xff
			}
			_ = append(store[:size], 1, 2, 3)
			changed := bytes.Clone(store)
			for i := range size + 20 {
				p.take(t, i%35, i%35+2, 37)
				p.raw(t, 7)
			}
			if !bytes.Equal(store, changed) {
				t.Fatalf("%d bytes: they were written into", size)
			}
			copy(store, was)
		}
	}
}

func TestSwiftReadersAreApart(t *testing.T) {
	b := []byte{0xab, 0xcd, 0xef, 0x12, 0x34}
	a, other := swift.New(b), swift.New(b)
	a.Take(0xab, 0xac, 256)
	a.Raw(5)
	c := *a
	a.Take(0xcd, 0xce, 256)
	a.Raw(1)
	if other.Get(256) != 0xab || other.Left() != 16 || c.Get(256) != 0xcd || c.Left() != 3 || a.Get(256) != 0xef || a.Left() != -6 {
		t.Error(see(other), see(&c), see(a))
	}
	// One that begins anew takes no bytes from its copy.
	a.Reset([]byte{1, 2, 3, 4, 5, 6})
	c.Take(0xcd, 0xce, 256)
	c.Take(0xef, 0xf0, 256)
	if c.Get(256) != 0x12 || c.Raw(3) != 1 || other.Raw(16) != 0x1234 || a.Raw(16) != 0x0506 {
		t.Error("bytes of one are another's")
	}
}

// One that begins anew is as a new one, whatever it read ahead of that.
func TestReset(t *testing.T) {
	sizes := []int{0, 1, 2, 3, 4, 7, 40, 1274, 1275, 1276, 3000}
	c := chance(82)
	for _, first := range sizes {
		for _, second := range sizes {
			s := swift.New(c.bytes(first))
			for range c.below(2 * (first + 10)) {
				s.Take(c.below(60), 60, 61)
				s.Raw(c.below(17))
			}
			b := c.bytes(second)
			s.Reset(b)
			p := both{s, reader.New(b)}
			p.check(t)
			if s.Rng() != 1<<24 || s.Left() != 8*(second-3) {
				t.Fatal(first, second, s.Rng(), s.Left())
			}
			for range min(second, 300) + 40 {
				c.step(t, p)
			}
			for p.s.Left() > -50 {
				p.raw(t, 13)
			}
		}
	}
	for _, b := range [][]byte{nil, {}} {
		s := swift.New([]byte{0xff, 0xff, 0xff, 0xff})
		s.Raw(3)
		s.Reset(b)
		if s.Left() != -24 || s.Rng() != 1<<24 || s.Get(4096) != 0 || s.Raw(16) != 0 || s.Left() != -40 {
			t.Error(see(s))
		}
	}
}

// One that New didn't make has no range, as such a reader hasn't: its calls end
// all the same, and Reset makes it a right one.
func TestWithoutARange(t *testing.T) {
	p := both{&swift.Swift{}, &reader.Reader{}}
	for range 100 {
		p.take(t, 1, 2, 3)
		p.take(t, 2, 3, 3)
		p.take(t, 0, 1, 4096)
		p.raw(t, 7)
		if p.get(t, 3) != 0 || p.s.Rng() != 0 {
			t.Fatal(see(p.s))
		}
	}
	b := []byte{0xaa, 0xaf, 0xff, 0x17}
	p.s.Reset(b)
	both{p.s, reader.New(b)}.take(t, 2, 3, 3)
}

// chance gives numbers that look like chance, the same in each run.
type chance uint32

func (c *chance) below(n int) int {
	*c = chance(fix.Lcg(uint32(*c)))
	return int(uint32(*c)>>8) % n
}

// total is one that may be, of those that lie at edges more often than not.
func (c *chance) total() int {
	totals := []int{1, 2, 3, 64, 255, 256, 257, 512, 1000, 4095, 4096, 1 << c.below(13), 1 + c.below(4096), 1 + c.below(4096)}
	return totals[c.below(len(totals))]
}

// symbol is one of a total that may be.
func (c *chance) symbol() call {
	total := c.total()
	switch c.below(6) {
	case 0:
		return sym(0, 1, total)
	case 1:
		return sym(total-1, total, total)
	}
	from := c.below(total)
	return sym(from, from+1+c.below(total-from), total)
}

// bytes are some, with many that are all noughts or all ones.
func (c *chance) bytes(size int) []byte {
	b := make([]byte, size)
	kind := c.below(4)
	for i := range b {
		switch {
		case kind == 1 || kind == 3 && c.below(2) == 0:
			b[i] = 0xff
		case kind == 0:
			b[i] = byte(c.below(256))
		}
	}
	return b
}

// step does one thing with both, and holds what they answer against each other.
func (c *chance) step(t *testing.T, p both) {
	t.Helper()
	switch c.below(12) {
	case 0, 1:
		p.raw(t, c.below(24)-4)
		return
	case 2:
		p.take(t, c.below(9)-2, c.below(9)-2, c.below(9)-2)
		return
	}
	next := c.symbol()
	is := p.get(t, next.total)
	if c.below(3) != 0 { // mostly the symbol that is there
		next = sym(is, is+1, next.total)
	}
	p.take(t, next.from, next.to, next.total)
}

func TestAsAReader(t *testing.T) {
	c := chance(8)
	used := swift.New(nil)
	for round := range 4000 {
		size := c.below(40)
		if round%100 == 0 {
			size = c.below(3000)
		}
		b := c.bytes(size)
		p := of(b)
		if round%2 == 0 {
			used.Reset(b)
			p.s = used
		}
		p.check(t)
		for i := 0; p.r.Left() > -400 && i <= 10*size+1000; i++ {
			c.step(t, p)
		}
	}
}

// written is what was put into a packet: its calls, and what was left and the
// range behind each.
type written struct {
	packet []byte
	calls  []call
	left   []int
	rng    []uint32
}

func put(w *writer.Writer, c call) api.Errno {
	if c.total == 0 {
		return w.Raw(c.x, c.n)
	}
	return w.Put(c.from, c.to, c.total)
}

// write puts what next gives till something is too much for the size, or
// until there are enough calls.
func write(t *testing.T, size int, next func() call) written {
	t.Helper()
	first, e := writer.New(size)
	if e != api.OK {
		t.Fatal(e)
	}
	w := *first
	var out written
	for range 3000 {
		c := next()
		was := w
		if e := put(&w, c); e != api.OK {
			t.Fatalf("%+v: %d", c, e)
		}
		if w.Left() < 0 {
			w = was
			break
		}
		out.calls = append(out.calls, c)
		out.left, out.rng = append(out.left, w.Left()), append(out.rng, w.Rng())
	}
	if out.packet, e = w.Done(); e != api.OK {
		t.Fatal(e)
	}
	return out
}

// checkRead reads a packet: just what was put, in order.
func checkRead(t *testing.T, s *swift.Swift, p written) {
	t.Helper()
	s.Reset(p.packet)
	if s.Left() != 8*len(p.packet)-24 || s.Rng() != 1<<24 {
		t.Fatal(s.Left(), s.Rng())
	}
	for i, c := range p.calls {
		if c.total == 0 {
			if x := s.Raw(c.n); x != c.x {
				t.Fatalf("call %d of %d, %+v: %x", i, len(p.calls), c, x)
			}
		} else {
			if is := s.Get(c.total); is < c.from || is >= c.to {
				t.Fatalf("call %d of %d, %+v: %d", i, len(p.calls), c, is)
			}
			s.Take(c.from, c.to, c.total)
		}
		if s.Left() != p.left[i] || s.Rng() != p.rng[i] {
			t.Fatalf("call %d of %d, %+v: left %d, range %d, not %d, %d", i, len(p.calls), c, s.Left(), s.Rng(), p.left[i], p.rng[i])
		}
	}
}

func TestReadsWhatWasPut(t *testing.T) {
	c := chance(83)
	s := swift.New(nil)
	for round := range 3000 {
		size := 4 + c.below(100)
		if round%50 == 0 {
			size = 4 + c.below(1272)
		}
		rawIn := 1 + c.below(9)
		checkRead(t, s, write(t, size, func() call {
			if c.below(rawIn) == 0 {
				n := c.below(17)
				return raw(uint32(c.below(1<<n)), n)
			}
			return c.symbol()
		}))
	}
	for _, size := range []int{4, 5, 6, 1274, 1275} {
		checkRead(t, s, write(t, size, func() call { return c.symbol() }))
		checkRead(t, s, write(t, size, func() call { return raw(0xa5c3, 16) }))
		checkRead(t, s, write(t, size, func() call { return sym(0, 1, 4096) }))
		checkRead(t, s, write(t, size, func() call { return sym(4095, 4096, 4096) }))
		checkRead(t, s, write(t, size, func() call { return sym(0, 1, 1) }))
		checkRead(t, s, write(t, size, func() call { return sym(255, 257, 512) }))
	}
}

// A packet needs no new memory: it is laid into the room of the last one.
func TestResetUsesItsRoomAgain(t *testing.T) {
	s, b := swift.New(nil), counted(api.MaxPacket)
	if n := testing.AllocsPerRun(10, func() { s.Reset(b) }); n != 0 {
		t.Error(n)
	}
}
