package writer_test

import (
	"bytes"
	"math"
	"math/big"
	"testing"

	"spinet/api"
	"spinet/fix"
	"spinet/reader"
	"spinet/writer"
)

// call is a symbol, or raw bits if its total is 0.
type call struct {
	from, to, total int
	x               uint32
	n               int
}

func put(from, to, total int) call { return call{from: from, to: to, total: total} }
func raw(x uint32, n int) call     { return call{x: x, n: n} }

func (c call) do(w *writer.Writer) api.Errno {
	if c.total == 0 {
		return w.Raw(c.x, c.n)
	}
	return w.Put(c.from, c.to, c.total)
}

// fresh is a writer of a size that may be.
func fresh(t *testing.T, size int) *writer.Writer {
	t.Helper()
	w, e := writer.New(size)
	if e != api.OK || w == nil {
		t.Fatalf("New(%d): %v, %d", size, w, e)
	}
	return w
}

// after is a writer of a size behind some calls.
func after(t *testing.T, size int, calls ...call) *writer.Writer {
	t.Helper()
	w := fresh(t, size)
	for _, c := range calls {
		if e := c.do(w); e != api.OK {
			t.Fatalf("%+v: %d", c, e)
		}
	}
	return w
}

// hold holds a writer to what it ought to answer; no packet: it is full.
func hold(t *testing.T, w *writer.Writer, rng uint32, left int, packet []byte) {
	t.Helper()
	want := api.OK
	if packet == nil {
		want = api.ErrFull
	}
	if w.Rng() != rng || w.Left() != left {
		t.Errorf("range %d, left %d, not %d, %d", w.Rng(), w.Left(), rng, left)
	}
	got, e := w.Done()
	if e != want || !bytes.Equal(got, packet) || (packet == nil) != (got == nil) {
		t.Errorf("packet % x, %d, not % x, %d", got, e, packet, want)
	}
}

func TestExamples(t *testing.T) {
	hold(t, after(t, 4, put(1, 2, 2)), 1<<23, 8, []byte{0x80, 0, 0, 0})
}

func TestRows(t *testing.T) {
	for i, c := range []struct {
		size   int
		calls  []call
		rng    uint32
		left   int
		packet []byte
	}{
		{4, nil, 1 << 24, 8, []byte{0, 0, 0, 0}},
		{4, []call{put(0, 1, 2)}, 1 << 23, 8, []byte{0, 0, 0, 0}},
		// The only symbol there is takes nothing.
		{4, []call{put(0, 1, 1)}, 1 << 24, 8, []byte{0, 0, 0, 0}},
		{4, []call{put(0, 4096, 4096)}, 1 << 24, 8, []byte{0, 0, 0, 0}},
		// The range is not a multiple of the total: what is over belongs to the
		// symbol that ends there.
		{5, []call{put(1, 2, 3)}, 0x555555, 16, []byte{0x55, 0x55, 0x55, 0, 0}},
		{5, []call{put(2, 3, 3)}, 0x555556, 16, []byte{0xaa, 0xaa, 0xaa, 0, 0}},
		{5, []call{put(1, 3, 3)}, 0xaaaaab, 16, []byte{0x55, 0x55, 0x55, 0, 0}},
		{5, []call{put(0, 2, 3)}, 0xaaaaaa, 16, []byte{0, 0, 0, 0, 0}},
		{5, []call{put(0, 3, 3)}, 1 << 24, 16, []byte{0, 0, 0, 0, 0}},
		// A range of just 2^16 puts a byte, one of 2^16 and 1 none.
		{5, []call{put(0, 1, 256)}, 1 << 24, 8, []byte{0, 0, 0, 0, 0}},
		{5, []call{put(255, 256, 256)}, 1 << 24, 8, []byte{0xff, 0, 0, 0, 0}},
		{5, []call{put(256, 257, 257)}, 1 << 24, 8, []byte{0xff, 0, 0, 0, 0}},
		{5, []call{put(255, 256, 257)}, 0xff0000, 8, []byte{0xfe, 0x01, 0, 0, 0}},
		{5, []call{put(0, 1, 255)}, 0x10101, 16, []byte{0, 0, 0, 0, 0}},
		{5, []call{put(254, 255, 255)}, 0x10102, 16, []byte{0xfe, 0xfe, 0xfe, 0, 0}},
		{5, []call{put(3, 12, 12), put(191, 192, 192)}, 1<<16 + 1, 16, []byte{0xfe, 0xff, 0xff, 0, 0}},
		// Two bytes of one symbol.
		{8, []call{put(0, 1, 4096)}, 1 << 20, 32, []byte{0, 0, 0, 0, 0, 0, 0, 0}},
		{8, []call{put(0, 1, 4096), put(0, 1, 4096)}, 1 << 24, 16, []byte{0, 0, 0, 0, 0, 0, 0, 0}},
		{8, []call{put(4094, 4095, 4096), put(1, 2, 4096)}, 1 << 24, 16, []byte{0xff, 0xe0, 0x01, 0, 0, 0, 0, 0}},
		{8, []call{put(4095, 4096, 4096), put(4095, 4096, 4096)}, 1 << 24, 16, []byte{0xff, 0xff, 0xff, 0, 0, 0, 0, 0}},
		{8, []call{put(1, 2, 4095), put(2, 3, 4095), put(3, 4, 4095)}, 0x100100, 8, []byte{0, 0x10, 0x03, 0, 0x30, 0x03, 0, 0}},
		{8, []call{put(5, 9, 4096), put(3, 7, 10), put(0, 100, 1000)}, 0x28f14, 32, []byte{0, 0x63, 0x33, 0x32, 0, 0, 0, 0}},
		// Low comes to 2^24, or stays below it.
		{7, []call{put(255, 257, 512), put(0, 1, 2)}, 1 << 23, 24, []byte{0x7f, 0x80, 0, 0, 0, 0, 0}},
		{7, []call{put(255, 257, 512), put(1, 2, 2)}, 1 << 23, 24, []byte{0x80, 0, 0, 0, 0, 0, 0}},
		// It does, and a byte is put by the same symbol.
		{7, []call{put(255, 257, 512), put(255, 256, 256)}, 1 << 24, 16, []byte{0x80, 0x7f, 0, 0, 0, 0, 0}},
		{8, []call{put(0x12, 0x13, 256), put(255, 257, 512), put(255, 257, 512), put(1, 2, 2)}, 1 << 23, 16, []byte{0x12, 0x80, 0, 0, 0, 0, 0, 0}},
		{8, []call{put(0x12, 0x13, 256), put(255, 257, 512), put(255, 257, 512), put(255, 257, 512), put(2, 3, 3)}, 0x555556, 8, []byte{0x12, 0x80, 0, 0, 0x2a, 0xaa, 0xaa, 0}},
		// Raw bits, the lowest first, from the last byte on.
		{8, []call{raw(1, 1)}, 1 << 24, 39, []byte{0, 0, 0, 0, 0, 0, 0, 1}},
		{8, []call{raw(0, 0), raw(0, 9), raw(1, 1)}, 1 << 24, 30, []byte{0, 0, 0, 0, 0, 0, 2, 0}},
		{8, []call{raw(5, 3), raw(1, 1), raw(0, 2), raw(0xbeef, 16)}, 1 << 24, 18, []byte{0, 0, 0, 0, 0, 0x2f, 0xbb, 0xcd}},
		// Both, one among the other: neither moves the other.
		{10, []call{put(1, 2, 3), raw(9, 4), put(1, 2, 3), put(1, 2, 3), put(4095, 4096, 4096), raw(0xffff, 16), put(4095, 4096, 4096)}, 0x9bd00, 20, []byte{0x84, 0xbd, 0x96, 0x43, 0, 0, 0, 0x0f, 0xff, 0xf9}},
		{4, []call{raw(0xa5, 8)}, 1 << 24, 0, []byte{0, 0, 0, 0xa5}},
		{4, []call{put(0xa5, 0xa6, 256)}, 1 << 24, 0, []byte{0xa5, 0, 0, 0}},
		{4, []call{raw(0xa5, 8), put(2, 3, 3)}, 0x555556, 0, []byte{0xaa, 0xaa, 0xaa, 0xa5}},
		{4, []call{raw(0xa5, 8), raw(1, 1)}, 1 << 24, -1, nil},
		{4, []call{put(0xa5, 0xa6, 256), raw(0, 1)}, 1 << 24, -1, nil},
		{4, []call{put(0xa5, 0xa6, 256), put(0, 1, 256)}, 1 << 24, -8, nil},
		{4, []call{raw(0, 1), put(0, 1, 256)}, 1 << 24, -1, nil},
	} {
		hold(t, after(t, c.size, c.calls...), c.rng, c.left, c.packet)
		if t.Failed() {
			t.Fatal("row", i)
		}
	}
}

func TestNewSizes(t *testing.T) {
	sizes := []int{math.MinInt, math.MinInt + 4, -1 << 32, 1 << 32, 1<<32 + 4, 1 << 16, 1<<16 + 4, math.MaxInt - 1, math.MaxInt}
	for size := -300; size <= 3000; size++ {
		sizes = append(sizes, size)
	}
	for _, size := range sizes {
		if size >= 4 && size <= 1275 {
			hold(t, fresh(t, size), 1<<24, 8*size-24, make([]byte, size))
		} else if w, e := writer.New(size); w != nil || e != api.ErrRange {
			t.Errorf("New(%d): %v, %d", size, w, e)
		}
	}
}

// checkCall does a call that is or isn't right; if it is refused, nothing changes.
func checkCall(t *testing.T, w writer.Writer, c call, right bool, e func(*writer.Writer) api.Errno) {
	t.Helper()
	was := w
	got := e(&w)
	if right && got != api.OK || !right && (got != api.ErrArg || w != was) {
		t.Fatalf("%+v: %d, changed %t", c, got, w != was)
	}
}

func TestPutArguments(t *testing.T) {
	w := *after(t, 20, put(2, 3, 7), raw(5, 3), put(4000, 4001, 4096))
	try := func(from, to, total int) {
		right := 0 <= from && from < to && to <= total && 1 <= total && total <= 4096
		checkCall(t, w, put(from, to, total), right, func(w *writer.Writer) api.Errno { return w.Put(from, to, total) })
	}
	edges := []int{
		math.MinInt, math.MinInt + 1, -1 << 32, -1<<32 + 1, -4096, 255, 256, 257, 4094, 4095, 4096, 4097, 8192,
		1 << 16, 1 << 24, 1 << 31, 1 << 32, 1<<32 + 1, 1<<32 + 2, 1<<32 + 3, math.MaxInt - 1, math.MaxInt,
	}
	for x := -3; x <= 7; x++ {
		edges = append(edges, x)
	}
	for _, from := range edges {
		for _, to := range edges {
			for _, total := range edges {
				try(from, to, total)
			}
		}
	}
	for total := -10; total <= 4110; total++ {
		try(0, 1, total)
		try(total-1, total, total)
		try(0, total, total)
		try(total, total, total)
		try(total, total+1, total)
		try(0, total+1, total)
		try(-1, total, total)
	}
}

func TestRawArguments(t *testing.T) {
	w := *after(t, 20, put(2, 3, 7), raw(5, 3), put(4000, 4001, 4096))
	try := func(x uint32, n int) {
		right := 0 <= n && n <= 16 && uint64(x) < 1<<uint(min(max(n, 0), 16))
		checkCall(t, w, raw(x, n), right, func(w *writer.Writer) api.Errno { return w.Raw(x, n) })
	}
	lengths := []int{math.MinInt, math.MinInt + 1, -1 << 32, 1 << 32, 1<<32 + 8, math.MaxInt, 64, 63, 256, 264}
	for n := -40; n <= 40; n++ {
		lengths = append(lengths, n)
	}
	for _, n := range lengths {
		for x := range uint32(600) {
			try(x, n)
		}
		for shift := range 32 {
			p := uint32(1) << shift
			try(p-1, n)
			try(p, n)
			try(p+1, n)
			try(^p, n)
		}
		try(math.MaxUint32, n)
	}
}

// A range that lies about a boundary puts 7f and then ff and ff, till it is
// known on which side of the boundary the symbols end.
func TestCarryThroughBytes(t *testing.T) {
	const size = 1275
	w := *fresh(t, size)
	w.Put(0x12, 0x13, 256)
	for n := 1; n <= size-3-1; n++ {
		w.Put(255, 257, 512)
		below, above := w, w
		below.Put(0, 1, 2)
		above.Put(1, 2, 2)
		want := make([]byte, size)
		want[0], want[1] = 0x12, 0x80
		hold(t, &above, 1<<23, 8*(size-3-1-n), want)
		want[1] = 0x7f
		for i := range n - 1 {
			want[2+i] = 0xff
		}
		want[1+n] = 0x80
		hold(t, &below, 1<<23, 8*(size-3-1-n), want)
		if t.Failed() {
			t.Fatal("after", n, "bytes")
		}
	}
}

func TestAllRawBits(t *testing.T) {
	for _, size := range []int{4, 5, 6, 7, 100, 1274, 1275} {
		w := fresh(t, size)
		want := make([]byte, size)
		for i := range 8 * (size - 3) {
			bit := uint32(i*i/3) & 1
			want[size-1-i/8] |= byte(bit) << (i % 8)
			if e := w.Raw(bit, 1); e != api.OK {
				t.Fatal(size, i, e)
			}
			hold(t, w, 1<<24, 8*(size-3)-i-1, want)
			if t.Failed() {
				t.Fatal(size, i)
			}
		}
		w.Raw(0, 0)
		hold(t, w, 1<<24, 0, want)
		w.Raw(0, 1)
		hold(t, w, 1<<24, -1, nil)
	}
}

func TestAllBytes(t *testing.T) {
	for _, size := range []int{4, 5, 6, 7, 100, 1274, 1275} {
		w := fresh(t, size)
		want := make([]byte, size)
		for i := range size - 3 {
			want[i] = byte(i*7 + 3)
			if e := w.Put(int(want[i]), int(want[i])+1, 256); e != api.OK {
				t.Fatal(size, i, e)
			}
			hold(t, w, 1<<24, 8*(size-3-i-1), want)
		}
		w.Put(0, 1, 256)
		hold(t, w, 1<<24, -8, nil)
	}
}

// Of a writer that is over its size nothing comes any more, whatever is put,
// but what it answers of its range and of what is left goes on.
func TestOverItsSize(t *testing.T) {
	for _, size := range []int{4, 5, 1275} {
		w, m := fresh(t, size), newModel(size)
		for i := range 6000 {
			c := put(255, 257, 512)
			if i%5 == 4 {
				c = put(1, 2, 2)
			}
			if i%7 == 6 {
				c = raw(0x5a5a, 16)
			}
			if e := c.do(w); e != api.OK {
				t.Fatal(size, i, e)
			}
			m.do(c)
			hold(t, w, uint32(m.rng), m.left(), m.packet())
			if t.Failed() {
				t.Fatal(size, i)
			}
		}
		if w.Left() > -20000 || w.Put(1, 1, 2) != api.ErrArg || w.Raw(2, 1) != api.ErrArg {
			t.Error(size, w.Left())
		}
	}
}

// What is asked changes nothing, and what is answered shares nothing.
func TestAskingChangesNothing(t *testing.T) {
	for _, calls := range [][]call{
		nil,
		{put(2, 3, 3), raw(77, 7), put(100, 101, 4096), put(100, 101, 4096)},
		{put(2, 3, 256), put(2, 3, 256), raw(1, 16), raw(1, 9)},
		{put(2, 3, 256), put(2, 3, 256), raw(1, 16), raw(1, 16), raw(0, 16)},
	} {
		w := after(t, 8, calls...)
		was := *w
		first, e := w.Done()
		kept := bytes.Clone(first)
		for i := range first {
			first[i] ^= 0xff
		}
		_ = append(first[:0], 1, 2, 3)
		w.Left()
		w.Rng()
		second, again := w.Done()
		if *w != was || !bytes.Equal(second, kept) || e != again {
			t.Errorf("% x, %d, then % x, %d", kept, e, second, again)
		}
	}
}

// Done may be asked at any time: what is put behind it is the same.
func TestGoesOnBehindDone(t *testing.T) {
	calls := []call{put(255, 257, 512), raw(3, 2), put(255, 257, 512), put(1, 2, 2), raw(0xffff, 16), put(7, 9, 1000)}
	asked, w := fresh(t, 12), after(t, 12, calls...)
	for _, c := range calls {
		c.do(asked)
		asked.Done()
	}
	if *asked != *w {
		t.Error("asking for the packet changed what came behind it")
	}
}

func TestWritersAreApart(t *testing.T) {
	a, b := fresh(t, 6), fresh(t, 6)
	a.Put(0xab, 0xac, 256)
	a.Raw(1, 1)
	hold(t, b, 1<<24, 24, make([]byte, 6))
	c := *a
	a.Put(1, 2, 256)
	c.Put(2, 3, 256)
	c.Raw(1, 1)
	hold(t, a, 1<<24, 7, []byte{0xab, 1, 0, 0, 0, 1})
	hold(t, &c, 1<<24, 6, []byte{0xab, 2, 0, 0, 0, 3})
}

// A writer that New didn't make has no size: its calls end all the same.
func TestWriterWithoutASize(t *testing.T) {
	var w writer.Writer
	for range 3000 {
		if w.Put(1, 2, 3) != api.OK || w.Put(2, 3, 3) != api.OK || w.Raw(9, 4) != api.OK || w.Put(2, 2, 3) != api.ErrArg {
			t.Fatal("refused")
		}
	}
	if p, e := w.Done(); p != nil || e != api.ErrFull || w.Left() >= 0 {
		t.Error(p, e, w.Left())
	}
}

// model is a writer by the chapter's words: its bytes are one number.
type model struct {
	size     int
	rng, low int64
	bytes    *big.Int
	count    int
	raw      []byte
	through  int // how many bytes the last symbol changed
}

func newModel(size int) *model { return &model{size: size, rng: 1 << 24, bytes: new(big.Int)} }

func (m *model) do(c call) {
	if c.total == 0 {
		for i := range c.n {
			m.raw = append(m.raw, byte(c.x>>i&1))
		}
		return
	}
	r := m.rng / int64(c.total)
	m.low += int64(c.from) * r
	if c.to == c.total {
		m.rng -= int64(c.from) * r
	} else {
		m.rng = int64(c.to-c.from) * r
	}
	m.through = 0
	if m.low >= 1<<24 {
		m.low -= 1 << 24
		m.bytes.Add(m.bytes, big.NewInt(1))
		m.through = 1 + int(m.bytes.TrailingZeroBits())/8
	}
	for m.rng <= 1<<16 {
		m.bytes.Lsh(m.bytes, 8)
		m.bytes.Add(m.bytes, big.NewInt(m.low/(1<<16)))
		m.count++
		m.low = m.low % (1 << 16) * 256
		m.rng *= 256
	}
}

func (m *model) left() int { return 8*m.size - 24 - 8*m.count - len(m.raw) }

func (m *model) packet() []byte {
	if m.left() < 0 {
		return nil
	}
	p := make([]byte, m.size)
	whole := new(big.Int).Lsh(m.bytes, 24)
	whole.Add(whole, big.NewInt(m.low))
	whole.FillBytes(p[:m.count+3])
	for i, bit := range m.raw {
		p[m.size-1-i/8] += bit << (i % 8)
	}
	return p
}

// about is a symbol whose range lies about the boundary at which low comes to
// 2^24, so that many bytes hang on the next one, if there is such a symbol.
func (m *model) about(total int) (call, bool) {
	at := (1<<24 - m.low) / (m.rng / int64(total))
	if at < 1 || at >= int64(total)-1 {
		return call{}, false
	}
	return put(int(at)-1, int(at)+1, total), true
}

// chance gives numbers that look like chance, the same in each run.
type chance uint32

func (c *chance) below(n int) int {
	*c = chance(fix.Lcg(uint32(*c)))
	return int(uint32(*c)>>8) % n
}

// call is one that may be, of those that lie at edges more often than not.
func (c *chance) call(m *model) call {
	totals := []int{1, 2, 3, 64, 255, 256, 257, 512, 1000, 4095, 4096, 1 + c.below(4096), 1 + c.below(4096)}
	total := totals[c.below(len(totals))]
	switch kind := c.below(9); kind {
	case 0:
		n := c.below(17)
		return raw(uint32(c.below(1<<n)), n)
	case 1:
		return put(0, 1, total)
	case 2:
		return put(total-1, total, total)
	case 3, 4, 5, 6:
		if about, ok := m.about(512 + c.below(3584)); ok {
			return about
		}
	}
	from := c.below(total)
	return put(from, from+1+c.below(total-from), total)
}

func TestByDefinition(t *testing.T) {
	longest := 0
	c := chance(6)
	for round := range 3000 {
		size := 4 + c.below(60)
		if round%100 == 0 {
			size = 4 + c.below(1272)
		}
		w, m := fresh(t, size), newModel(size)
		for m.left() > -60 {
			before := m.count
			next := c.call(m)
			m.do(next)
			longest = max(longest, min(m.through, before))
			if e := next.do(w); e != api.OK {
				t.Fatalf("%+v: %d", next, e)
			}
			hold(t, w, uint32(m.rng), m.left(), m.packet())
			if t.Failed() {
				t.Fatalf("round %d, %+v", round, next)
			}
		}
	}
	if longest < 4 {
		t.Error("no carry went through more bytes than", longest)
	}
}

// check reads what a call put, and tells whether it was that.
func check(r *reader.Reader, c call) bool {
	if c.total == 0 {
		return r.Raw(c.n) == c.x
	}
	s := r.Get(c.total)
	r.Take(c.from, c.to, c.total)
	return c.from <= s && s < c.to
}

func TestReadInOrder(t *testing.T) {
	c := chance(62)
	for range 2000 {
		size := 4 + c.below(200)
		w, m := *fresh(t, size), newModel(size)
		var calls []call
		var lefts []int
		for {
			next := c.call(m)
			was := w
			if next.do(&w); w.Left() < 0 {
				w = was
				break
			}
			m.do(next)
			calls, lefts = append(calls, next), append(lefts, w.Left())
			if len(calls) > 3000 {
				break
			}
		}
		packet, e := w.Done()
		if e != api.OK {
			t.Fatal(e)
		}
		reading := reader.New(packet)
		for i, put := range calls {
			if !check(reading, put) || reading.Left() != lefts[i] {
				t.Fatalf("call %d of %d, %+v: left %d, not %d", i, len(calls), put, reading.Left(), lefts[i])
			}
		}
		if reading.Rng() != w.Rng() {
			t.Fatal(reading.Rng(), w.Rng())
		}
	}
}
