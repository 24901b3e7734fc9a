package reader_test

import (
	"bytes"
	"math"
	"testing"

	"spinet/api"
	"spinet/fix"
	"spinet/reader"
	"spinet/writer"
)

// call is a symbol, or raw bits if its total is 0.
type call struct {
	from, to, total int
	x               uint32
	n               int
}

func sym(from, to, total int) call { return call{from: from, to: to, total: total} }
func raw(x uint32, n int) call     { return call{x: x, n: n} }

// after is a reader of bytes behind some symbols.
func after(b []byte, takes ...call) *reader.Reader {
	r := reader.New(b)
	for _, c := range takes {
		r.Take(c.from, c.to, c.total)
	}
	return r
}

// looks are the totals of which a reader is asked to see where its value lies.
var looks = [...]int{1, 2, 3, 7, 255, 256, 4095, 4096}

// view is all that a reader answers without a change.
type view struct {
	rng  uint32
	left int
	gets [len(looks)]int
}

func see(r *reader.Reader) view {
	v := view{rng: r.Rng(), left: r.Left()}
	for i, total := range looks {
		v.gets[i] = r.Get(total)
	}
	return v
}

func TestExamples(t *testing.T) {
	r := reader.New([]byte{0x80, 0, 0, 0})
	if got := r.Get(2); got != 1 {
		t.Error(got)
	}
	r = reader.New([]byte{0x7f, 0xff, 0xff, 0xff})
	if got := r.Get(2); got != 0 {
		t.Error(got)
	}
}

func TestRows(t *testing.T) {
	for i, c := range []struct {
		bytes []byte
		takes []call
		rng   uint32
		left  int
		gets  [len(looks)]int
	}{
		// No bytes at all, and fewer than three.
		{nil, nil, 1 << 24, -24, [...]int{0, 0, 0, 0, 0, 0, 0, 0}},
		{[]byte{}, nil, 1 << 24, -24, [...]int{0, 0, 0, 0, 0, 0, 0, 0}},
		{[]byte{0xab}, nil, 1 << 24, -16, [...]int{0, 1, 2, 4, 170, 171, 2735, 2736}},
		{[]byte{0xab, 0xcd}, nil, 1 << 24, -8, [...]int{0, 1, 2, 4, 171, 171, 2748, 2748}},
		{[]byte{0xab, 0xcd, 0xef}, nil, 1 << 24, 0, [...]int{0, 1, 2, 4, 171, 171, 2748, 2748}},
		{[]byte{0xab, 0xcd, 0xef, 0x12}, nil, 1 << 24, 8, [...]int{0, 1, 2, 4, 171, 171, 2748, 2748}},
		// A total that doesn't divide the range: what is over is the last symbol's.
		{[]byte{0xff, 0xff, 0xff}, nil, 1 << 24, 0, [...]int{0, 1, 2, 6, 254, 255, 4094, 4095}},
		{[]byte{0x55, 0x55, 0x54}, nil, 1 << 24, 0, [...]int{0, 0, 0, 2, 84, 85, 1364, 1365}},
		{[]byte{0x55, 0x55, 0x55}, nil, 1 << 24, 0, [...]int{0, 0, 1, 2, 85, 85, 1365, 1365}},
		{[]byte{0xaa, 0xaa, 0xa9}, nil, 1 << 24, 0, [...]int{0, 1, 1, 4, 169, 170, 2729, 2730}},
		{[]byte{0xaa, 0xaa, 0xaa}, nil, 1 << 24, 0, [...]int{0, 1, 2, 4, 170, 170, 2730, 2730}},
		// The symbol in which the value lies.
		{[]byte{0x80, 0, 0, 0}, []call{sym(1, 2, 2)}, 1 << 23, 8, [...]int{0, 0, 0, 0, 0, 0, 0, 0}},
		{[]byte{0xaa, 0xaa, 0xaa}, []call{sym(2, 3, 3)}, 0x555556, 0, [...]int{0, 0, 0, 0, 0, 0, 0, 0}},
		{[]byte{0xff, 0xff, 0xff}, []call{sym(2, 3, 3)}, 0x555556, 0, [...]int{0, 1, 2, 6, 254, 255, 4094, 4095}},
		{[]byte{0xff, 0xff, 0xff}, []call{sym(0, 1, 1)}, 1 << 24, 0, [...]int{0, 1, 2, 6, 254, 255, 4094, 4095}},
		// Another one: the value is held at its upper or its lower end.
		{[]byte{0xaa, 0xaa, 0xaa}, []call{sym(1, 2, 3)}, 0x555555, 0, [...]int{0, 1, 2, 6, 254, 255, 4094, 4095}},
		{[]byte{0xaa, 0xaa, 0xaa}, []call{sym(0, 2, 3)}, 0xaaaaaa, 0, [...]int{0, 1, 2, 6, 254, 255, 4094, 4095}},
		{[]byte{0, 0, 0}, []call{sym(2, 3, 3)}, 0x555556, 0, [...]int{0, 0, 0, 0, 0, 0, 0, 0}},
		// A range of just 2^16 takes a byte, one of 2^16 and 1 none.
		{[]byte{0xff, 0xff, 0xff, 0x78, 0x9a, 0xbc}, []call{sym(255, 256, 256)}, 1 << 24, 16, [...]int{0, 1, 2, 6, 254, 255, 4094, 4095}},
		{[]byte{0xff, 0xff, 0xff, 0x78, 0x9a, 0xbc}, []call{sym(0, 1, 255)}, 0x10101, 24, [...]int{0, 1, 2, 6, 254, 255, 4094, 4095}},
		{[]byte{0xff, 0xfe, 0xff, 0x78, 0x9a, 0xbc}, []call{sym(3, 12, 12), sym(191, 192, 192)}, 1<<16 + 1, 24, [...]int{0, 1, 2, 6, 254, 255, 4080, 4080}},
		// Two bytes of one symbol.
		{[]byte{0xff, 0xff, 0xff, 0x78, 0x9a, 0xbc}, []call{sym(4095, 4096, 4096), sym(4095, 4096, 4096)}, 1 << 24, 0, [...]int{0, 0, 1, 3, 120, 120, 1929, 1929}},
		{[]byte{0xff, 0xff, 0xff, 0x78, 0x9a, 0xbc}, []call{sym(4094, 4095, 4096), sym(0, 1, 4096)}, 1 << 24, 0, [...]int{0, 1, 2, 6, 254, 255, 4088, 4089}},
		// Bytes behind the end.
		{[]byte{0xff, 0xff, 0xf0}, []call{sym(0, 1, 4096), sym(0, 1, 4096), sym(0, 1, 4096)}, 1 << 20, -32, [...]int{0, 1, 2, 6, 254, 255, 4094, 4095}},
		{[]byte{1, 2, 3, 4, 5, 6}, []call{sym(0, 1, 4095), sym(0, 1, 4095), sym(0, 1, 4095)}, 0x100100, -8, [...]int{0, 1, 2, 6, 254, 255, 4094, 4095}},
	} {
		want := view{c.rng, c.left, c.gets}
		if got := see(after(c.bytes, c.takes...)); got != want {
			t.Errorf("row %d: %+v, not %+v", i, got, want)
		}
	}
}

// Of a range of 2^24 each symbol of 256 is a byte: so all of the bytes are
// told, and noughts behind the end.
func TestBytesInOrder(t *testing.T) {
	for _, size := range []int{0, 1, 2, 3, 4, 5, 1274, 1275, 1276, 70000} {
		b := make([]byte, size)
		for i := range b {
			b[i] = byte(i*7 + i/256 + 1)
		}
		r := reader.New(b)
		for i := range size + 3000 {
			want := 0
			if i < size {
				want = int(b[i])
			}
			if got := r.Get(256); got != want || r.Left() != 8*(size-3-i) || r.Rng() != 1<<24 {
				t.Fatalf("%d bytes, byte %d: %d, not %d; left %d, range %d", size, i, got, want, r.Left(), r.Rng())
			}
			r.Take(want, want+1, 256)
		}
	}
}

func TestRawBitsInOrder(t *testing.T) {
	for _, size := range []int{0, 1, 2, 3, 4, 1275, 1276, 9000} {
		b := make([]byte, size)
		for i := range b {
			b[i] = byte(i*i/3 + i*5 + 0x81)
		}
		r := reader.New(b)
		for i := range 8*size + 100 {
			want := uint32(0)
			if i < 8*size {
				want = uint32(b[size-1-i/8]>>(i%8)) % 2
			}
			if got := r.Raw(1); got != want || r.Left() != 8*(size-3)-i-1 {
				t.Fatalf("%d bytes, bit %d: %d, not %d; left %d", size, i, got, want, r.Left())
			}
		}
	}
}

func TestRawRows(t *testing.T) {
	for _, c := range []struct {
		bytes []byte
		reads []call
		left  int
	}{
		{[]byte{1, 2, 3, 0xa5}, []call{raw(0xa5, 8)}, 0},
		{[]byte{1, 2, 3, 0xa5}, []call{raw(1, 1), raw(2, 3), raw(0xa, 4)}, 0},
		{[]byte{0, 0, 0, 0, 0, 0x2f, 0xbb, 0xcd}, []call{raw(5, 3), raw(1, 1), raw(0, 2), raw(0xbeef, 16)}, 18},
		{[]byte{0xde, 0xad, 0xbe, 0xef}, []call{raw(0xbeef, 16), raw(0xdead, 16)}, -24},
		// Bits that have no byte, some of them and all of them.
		{[]byte{0xff}, []call{raw(0xff, 16), raw(0, 16)}, -48},
		{[]byte{0xff, 0xff}, []call{raw(0x1ff, 9), raw(0x7f, 16)}, -33},
		{nil, []call{raw(0, 16), raw(0, 1)}, -41},
	} {
		r := reader.New(c.bytes)
		for i, read := range c.reads {
			if got := r.Raw(read.n); got != read.x {
				t.Errorf("% x, read %d: %x, not %x", c.bytes, i, got, read.x)
			}
		}
		if r.Left() != c.left {
			t.Errorf("% x: left %d, not %d", c.bytes, r.Left(), c.left)
		}
	}
}

func TestRawNumbersAreHeld(t *testing.T) {
	numbers := []int{math.MinInt, math.MinInt + 1, -1 << 32, -1<<32 + 8, 1 << 32, 1<<32 + 8, 255, 256, 264, math.MaxInt - 1, math.MaxInt}
	for n := -70; n <= 70; n++ {
		numbers = append(numbers, n)
	}
	const all = 0xc3a5b60f
	for _, n := range numbers {
		held := min(max(n, 0), 16)
		r := reader.New([]byte{0xc3, 0xa5, 0xb6, 0x0f})
		got, left := r.Raw(n), r.Left()
		next := r.Raw(16)
		if got != all%(1<<held) || left != 8-held || next != uint32(all>>held)%(1<<16) {
			t.Errorf("Raw(%d): %x, left %d, then %x", n, got, left, next)
		}
	}
}

func TestGetTotals(t *testing.T) {
	b := []byte{0xff, 0xff, 0xff, 0xff, 0xff}
	for _, r := range []*reader.Reader{reader.New(b), after(b, sym(2, 3, 3), sym(4095, 4096, 4096))} {
		totals := []int{math.MinInt, math.MinInt + 1, -1 << 32, -1<<32 + 2, 1 << 32, 1<<32 + 2, 1<<16 + 2, 1 << 24, 1 << 25, math.MaxInt}
		for total := -100; total <= 9000; total++ {
			totals = append(totals, total)
		}
		for _, total := range totals {
			want := 0
			if total >= 1 && total <= 4096 {
				want = total - 1
			}
			if got := r.Get(total); got != want {
				t.Errorf("Get(%d): %d", total, got)
			}
		}
	}
}

// checkTake takes a symbol that is or isn't right; if it isn't, nothing changes.
func checkTake(t *testing.T, r reader.Reader, m model, from, to, total int) {
	t.Helper()
	was := see(&r)
	r.Take(from, to, total)
	if 0 <= from && from < to && to <= total && 1 <= total && total <= 4096 {
		m.take(from, to, total)
		was = m.see()
	}
	if got := see(&r); got != was {
		t.Fatalf("Take(%d, %d, %d): %+v, not %+v", from, to, total, got, was)
	}
}

func TestTakeArguments(t *testing.T) {
	b := []byte{0x9c, 0x51, 0xfe, 0x03, 0x77, 0xc0, 0x1d, 0x42}
	r, m := reader.New(b), newModel(b)
	for _, c := range []call{sym(2, 5, 7), sym(4000, 4001, 4096)} {
		r.Take(c.from, c.to, c.total)
		m.take(c.from, c.to, c.total)
	}
	edges := []int{
		math.MinInt, math.MinInt + 1, -1 << 32, -1<<32 + 1, -4096, 255, 256, 257, 4094, 4095, 4096, 4097, 8192,
		1 << 16, 1 << 24, 1 << 31, 1 << 32, 1<<32 + 1, 1<<32 + 2, 1<<32 + 3, math.MaxInt - 1, math.MaxInt,
	}
	for x := -3; x <= 7; x++ {
		edges = append(edges, x)
	}
	for _, from := range edges {
		for _, to := range edges {
			for _, total := range edges {
				checkTake(t, *r, *m, from, to, total)
			}
		}
	}
	for total := -10; total <= 4110; total++ {
		checkTake(t, *r, *m, 0, 1, total)
		checkTake(t, *r, *m, total-1, total, total)
		checkTake(t, *r, *m, 0, total, total)
		checkTake(t, *r, *m, total, total, total)
		checkTake(t, *r, *m, total, total+1, total)
		checkTake(t, *r, *m, 0, total+1, total)
		checkTake(t, *r, *m, -1, total, total)
	}
}

// Where the value was held is told by the bytes that come behind: of a range of
// 2^24 each symbol of 256 is one.
func TestValueIsHeld(t *testing.T) {
	low := []byte{0, 0, 0, 0x11, 0x22, 0x33, 0x44}
	middle := []byte{0x80, 0, 0, 0x11, 0x22, 0x33, 0x44}
	for i, c := range []struct {
		bytes  []byte
		takes  []call
		digits []int
	}{
		// The value lies above: it is the last place of the symbol.
		{middle, []call{sym(0, 1, 256)}, []int{0xff, 0xff, 0x11, 0x22, 0x33, 0x44, 0}},
		{middle, []call{sym(0, 1, 4096), sym(4095, 4096, 4096)}, []int{0x11, 0x22, 0x33, 0x44, 0}},
		{middle, []call{sym(127, 128, 256)}, []int{0xff, 0xff, 0x11, 0x22, 0x33, 0x44, 0}},
		// It lies below: it is the first one.
		{middle, []call{sym(129, 130, 256)}, []int{0, 0, 0x11, 0x22, 0x33, 0x44, 0}},
		{middle, []call{sym(255, 256, 256)}, []int{0, 0, 0x11, 0x22, 0x33, 0x44, 0}},
		{middle, []call{sym(4095, 4096, 4096), sym(0, 1, 4096)}, []int{0x11, 0x22, 0x33, 0x44, 0}},
		{low, []call{sym(1, 2, 256)}, []int{0, 0, 0x11, 0x22, 0x33, 0x44, 0}},
		// It lies in the symbol, and is not held.
		{middle, []call{sym(128, 129, 256)}, []int{0, 0, 0x11, 0x22, 0x33, 0x44, 0}},
		{middle, []call{sym(2048, 2049, 4096), sym(0, 1, 4096)}, []int{0x11, 0x22, 0x33, 0x44, 0}},
	} {
		r := after(c.bytes, c.takes...)
		if r.Rng() != 1<<24 {
			t.Fatal(i, r.Rng())
		}
		for at, digit := range c.digits {
			if got := r.Get(256); got != digit {
				t.Errorf("row %d, byte %d: %x, not %x", i, at, got, digit)
			}
			r.Take(digit, digit+1, 256)
		}
	}
}

// What is asked changes nothing.
func TestAskingChangesNothing(t *testing.T) {
	b := []byte{0x9c, 0x51, 0xfe, 0x03, 0x77, 0xc0, 0x1d, 0x42}
	asked, left := reader.New(b), reader.New(b)
	c := chance(71)
	for i := range 200 {
		for range 3 {
			for total := -2; total < 5000; total += 1 + c.below(700) {
				asked.Get(total)
			}
			asked.Left()
			asked.Rng()
		}
		from := c.below(50)
		asked.Take(from, from+3, 53)
		left.Take(from, from+3, 53)
		n := c.below(20)
		if x, y := asked.Raw(n), left.Raw(n); x != y || see(asked) != see(left) {
			t.Fatal(i, x, y, see(asked), see(left))
		}
	}
}

// Bytes that are changed behind New, or lie behind those that were handed in,
// are not the reader's; and it writes into none.
func TestBytesAreItsOwn(t *testing.T) {
	store := []byte{0x9c, 0x51, 0xfe, 0x03, 0x77, 0xc0, 0x1d, 0x42}
	b := store[:5]
	kept := bytes.Clone(store)
	r, m := reader.New(b), newModel(bytes.Clone(b))
	check := func() {
		t.Helper()
		for i := range 12 {
			r.Take(i, i+2, 37)
			m.take(i, i+2, 37)
			if x, y := r.Raw(3), m.raw(3); x != y || see(r) != m.see() {
				t.Fatal(x, y, see(r), m.see())
			}
		}
	}
	if check(); !bytes.Equal(store, kept) {
		t.Errorf("% x became % x", kept, store)
	}
	r, m = reader.New(b), newModel(bytes.Clone(b))
	for i := range store {
		store[i] ^= 0xff
	}
	_ = append(b, 1, 2, 3)
	check()
}

func TestReadersAreApart(t *testing.T) {
	b := []byte{0xab, 0xcd, 0xef, 0x12, 0x34}
	a, other := reader.New(b), reader.New(b)
	a.Take(0xab, 0xac, 256)
	a.Raw(5)
	c := *a
	a.Take(0xcd, 0xce, 256)
	a.Raw(1)
	if other.Get(256) != 0xab || other.Left() != 16 || c.Get(256) != 0xcd || c.Left() != 3 || a.Get(256) != 0xef || a.Left() != -6 {
		t.Error(see(other), see(&c), see(a))
	}
	if c.Raw(3) != 1 || a.Raw(2) != 0 || other.Raw(16) != 0x1234 {
		t.Error("raw bits of one are another's")
	}
}

// A reader that New didn't make has no range: its calls end all the same.
func TestReaderWithoutARange(t *testing.T) {
	var r reader.Reader
	for range 100 {
		r.Take(1, 2, 3)
		r.Take(2, 3, 3)
		if r.Get(3) != 0 || r.Get(4096) != 0 || r.Raw(7) != 0 {
			t.Fatal(see(&r))
		}
	}
	if r.Left() >= 0 || r.Rng() != 0 {
		t.Error(r.Left(), r.Rng())
	}
}

// model is a reader by the chapter's words.
type model struct {
	bytes       []byte
	rng, value  int64
	taken, bits int
}

func newModel(b []byte) *model {
	m := &model{bytes: b, rng: 1 << 24}
	for i := range 3 {
		m.value = m.value*256 + m.byteAt(i)
	}
	m.taken = 3
	return m
}

func (m *model) byteAt(i int) int64 {
	if i < 0 || i >= len(m.bytes) {
		return 0
	}
	return int64(m.bytes[i])
}

func (m *model) get(total int) int {
	s := m.value / (m.rng / int64(total))
	if s > int64(total)-1 {
		s = int64(total) - 1
	}
	return int(s)
}

func (m *model) take(from, to, total int) {
	r := m.rng / int64(total)
	m.value -= int64(from) * r
	if to == total {
		m.rng -= int64(from) * r
	} else {
		m.rng = int64(to-from) * r
	}
	if m.value < 0 {
		m.value = 0
	}
	if m.value > m.rng-1 {
		m.value = m.rng - 1
	}
	for m.rng <= 1<<16 {
		m.rng *= 256
		m.value = m.value*256 + m.byteAt(m.taken)
		m.taken++
	}
}

func (m *model) raw(n int) uint32 {
	x := uint32(0)
	for place := range n {
		i := m.bits
		if m.byteAt(len(m.bytes)-1-i/8)&(1<<(i%8)) != 0 {
			x += 1 << place
		}
		m.bits++
	}
	return x
}

func (m *model) left() int { return 8*len(m.bytes) - 8*m.taken - m.bits }

func (m *model) see() view {
	v := view{rng: uint32(m.rng), left: m.left()}
	for i, total := range looks {
		v.gets[i] = m.get(total)
	}
	return v
}

// chance gives numbers that look like chance, the same in each run.
type chance uint32

func (c *chance) below(n int) int {
	*c = chance(fix.Lcg(uint32(*c)))
	return int(uint32(*c)>>8) % n
}

// total is one that may be, of those that lie at edges more often than not.
func (c *chance) total() int {
	totals := []int{1, 2, 3, 64, 255, 256, 257, 512, 1000, 4095, 4096, 1 + c.below(4096), 1 + c.below(4096)}
	return totals[c.below(len(totals))]
}

// symbol is one of a total that may be.
func (c *chance) symbol() call {
	total := c.total()
	switch c.below(6) {
	case 0:
		return sym(0, 1, total)
	case 1:
		return sym(total-1, total, total)
	}
	from := c.below(total)
	return sym(from, from+1+c.below(total-from), total)
}

// bytes are some, with many that are all noughts or all ones.
func (c *chance) bytes(size int) []byte {
	b := make([]byte, size)
	kind := c.below(4)
	for i := range b {
		switch {
		case kind == 1 || kind == 3 && c.below(2) == 0:
			b[i] = 0xff
		case kind == 0:
			b[i] = byte(c.below(256))
		}
	}
	return b
}

// step does one thing with a reader and its model, and tells whether both
// answered the same.
func (c *chance) step(r *reader.Reader, m *model) bool {
	if c.below(6) == 0 {
		n := c.below(17)
		return r.Raw(n) == m.raw(n)
	}
	next := c.symbol()
	got, want := r.Get(next.total), m.get(next.total)
	if c.below(3) != 0 { // mostly the symbol that is there
		next = sym(want, want+1, next.total)
	}
	r.Take(next.from, next.to, next.total)
	m.take(next.from, next.to, next.total)
	return got == want
}

func TestByDefinition(t *testing.T) {
	c := chance(7)
	for round := range 4000 {
		size := c.below(40)
		if round%100 == 0 {
			size = c.below(3000)
		}
		b := c.bytes(size)
		r, m := reader.New(b), newModel(b)
		for i := 0; m.left() > -400; i++ {
			same := c.step(r, m)
			if got, want := see(r), m.see(); !same || got != want {
				t.Fatalf("round %d, step %d: %+v, not %+v", round, i, got, want)
			}
			if i > 10*size+1000 {
				break
			}
		}
	}
}

// written is what was put into a packet: its calls, and what was left and the
// range behind each.
type written struct {
	packet []byte
	calls  []call
	left   []int
	rng    []uint32
}

func put(w *writer.Writer, c call) api.Errno {
	if c.total == 0 {
		return w.Raw(c.x, c.n)
	}
	return w.Put(c.from, c.to, c.total)
}

// write puts what next gives till something is too much for the size, or
// until there are enough calls.
func write(t *testing.T, size int, next func(i int) call) written {
	t.Helper()
	first, e := writer.New(size)
	if e != api.OK {
		t.Fatal(e)
	}
	w := *first
	var out written
	for i := range 3000 {
		c := next(i)
		was := w
		if e := put(&w, c); e != api.OK {
			t.Fatalf("%+v: %d", c, e)
		}
		if w.Left() < 0 {
			w = was
			break
		}
		out.calls = append(out.calls, c)
		out.left, out.rng = append(out.left, w.Left()), append(out.rng, w.Rng())
	}
	if out.packet, e = w.Done(); e != api.OK {
		t.Fatal(e)
	}
	return out
}

// checkRead reads a packet: just what was put, in order.
func checkRead(t *testing.T, p written) {
	t.Helper()
	r := reader.New(p.packet)
	if r.Left() != 8*len(p.packet)-24 || r.Rng() != 1<<24 {
		t.Fatal(r.Left(), r.Rng())
	}
	for i, c := range p.calls {
		if c.total == 0 {
			if x := r.Raw(c.n); x != c.x {
				t.Fatalf("call %d of %d, %+v: %x", i, len(p.calls), c, x)
			}
		} else {
			if s := r.Get(c.total); s < c.from || s >= c.to {
				t.Fatalf("call %d of %d, %+v: %d", i, len(p.calls), c, s)
			}
			r.Take(c.from, c.to, c.total)
		}
		if r.Left() != p.left[i] || r.Rng() != p.rng[i] {
			t.Fatalf("call %d of %d, %+v: left %d, range %d, not %d, %d", i, len(p.calls), c, r.Left(), r.Rng(), p.left[i], p.rng[i])
		}
	}
}

func TestReadsWhatWasPut(t *testing.T) {
	c := chance(72)
	for round := range 3000 {
		size := 4 + c.below(100)
		if round%50 == 0 {
			size = 4 + c.below(1272)
		}
		rawIn := 1 + c.below(9)
		checkRead(t, write(t, size, func(int) call {
			if c.below(rawIn) == 0 {
				n := c.below(17)
				return raw(uint32(c.below(1<<n)), n)
			}
			return c.symbol()
		}))
	}
	for _, size := range []int{4, 5, 6, 1274, 1275} {
		checkRead(t, write(t, size, func(int) call { return c.symbol() }))
		checkRead(t, write(t, size, func(int) call { return raw(1, 1) }))
		checkRead(t, write(t, size, func(int) call { return raw(0xa5c3, 16) }))
		checkRead(t, write(t, size, func(int) call { return sym(0, 1, 4096) }))
		checkRead(t, write(t, size, func(int) call { return sym(4095, 4096, 4096) }))
		checkRead(t, write(t, size, func(int) call { return sym(0, 1, 1) }))
	}
}

// What a writer carries through many bytes is read on both sides of the
// boundary.
func TestReadsWhatWasCarried(t *testing.T) {
	for _, n := range []int{1, 2, 3, 50, 1268} {
		for side := range 2 {
			p := write(t, 1275, func(i int) call {
				switch {
				case i < n:
					return sym(255, 257, 512)
				case i == n:
					return sym(side, side+1, 2)
				}
				return sym(i%5, i%5+1, 5)
			})
			if len(p.calls) <= n {
				t.Fatal(n, len(p.calls))
			}
			checkRead(t, p)
		}
	}
}
