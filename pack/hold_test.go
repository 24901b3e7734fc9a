package pack_test

import (
	"bytes"
	"testing"

	"spinet/api"
	"spinet/frame"
	"spinet/mode"
	"spinet/pack"
	"spinet/reader"
	"spinet/swift"
	"spinet/sym"
)

// at is the mode of a size and channels, right or not.
func at(size, chans int) mode.Mode { return mode.Mode{Size: size, Chans: chans} }

// modes are all that are right.
var modes = []mode.Mode{at(0, 1), at(0, 2), at(1, 1), at(1, 2), at(2, 1), at(2, 2)}

// full are energies everywhere, each another one.
var full = levels{{3, 14, 15, 9, 26}, {5, 30, 31, 7, 1}}

// chance gives numbers below a bound, always the same ones.
type chance uint64

func (c *chance) next(below int) int {
	*c = *c*6364136223846793005 + 1442695040888963407
	return int(*c>>33) % below
}

// levels are energies, in what a mode hasn't too.
func (c *chance) levels() levels {
	var l levels
	for ch := range l {
		for band := range l[ch] {
			l[ch][band] = c.next(32)
		}
	}
	return l
}

// number is one of 64 bits, of those at the ends more often than not.
func (c *chance) number() uint64 {
	n := uint64(c.next(1<<31))<<33 ^ uint64(c.next(1<<31))<<13 ^ uint64(c.next(1<<20))
	switch c.next(4) {
	case 0:
		return n
	case 1:
		return ^uint64(0) >> c.next(64)
	}
	return n >> (20 + c.next(44))
}

// wish has steps up to a magnitude, and of the rest whatever there may be.
func (c *chance) wish(step int) pack.Wish {
	w := pack.Wish{Silent: c.next(20) == 0, Intra: c.next(2) == 0, Spread: uint8(c.next(256)), Trim: uint8(c.next(256))}
	for ch := range w.Steps {
		for band := range w.Steps[ch] {
			w.Steps[ch][band] = int8(c.next(2*step+1) - step)
			w.Fines[ch][band] = uint8(c.next(256))
			w.Ranks[ch][band] = c.number()
		}
	}
	return w
}

// all are tools of either kind, which are asked again and again.
type all struct{ plain, quick frame.Tools }

func newAll() all { return all{frame.Plain(), frame.Quick()} }

func mustTell[S sym.Source](t *testing.T, s S, tools frame.Tools, m mode.Mode, prev levels, f frame.Frame, seed uint32) {
	t.Helper()
	got, is, ok := frame.Read(s, tools, m, prev)
	if !ok || got != f || is != seed {
		t.Fatalf("%v behind %v by %T: what is read is %+v, %d, %t, not %+v, %d", m, prev, tools, got, is, ok, f, seed)
	}
}

// mustWrite holds what Write answers to the words, and what is read of a packet
// to what was put; it tells what was answered.
func (a all) mustWrite(t *testing.T, size int, m mode.Mode, prev levels, f frame.Frame) written {
	t.Helper()
	want := writtenByWords(size, m, prev, f)
	packet, seed, e := pack.Write(size, m, prev, f)
	if e != want.e || seed != want.seed || !bytes.Equal(packet, want.packet) {
		t.Fatalf("%+v into %d bytes of %v behind %v: %x, %d, %d, not %x, %d, %d", f, size, m, prev, packet, seed, e, want.packet, want.seed, want.e)
	}
	if e != api.OK {
		if packet != nil {
			t.Fatalf("a packet beside an error: %x", packet)
		}
		return want
	}
	if len(packet) != size {
		t.Fatalf("%d bytes, not %d", len(packet), size)
	}
	for _, tools := range []frame.Tools{a.plain, a.quick} {
		mustTell(t, reader.New(packet), tools, m, prev, f, seed)
		mustTell(t, swift.New(packet), tools, m, prev, f, seed)
	}
	return want
}

// mustRefuse holds that nothing but an error is answered.
func (a all) mustRefuse(t *testing.T, size int, m mode.Mode, prev levels, f frame.Frame, e api.Errno) {
	t.Helper()
	if got := a.mustWrite(t, size, m, prev, f); got.e != e {
		t.Fatalf("%+v into %d bytes of %v behind %v: %d, not %d", f, size, m, prev, got.e, e)
	}
}

// mustTake holds that a frame is put.
func (a all) mustTake(t *testing.T, size int, m mode.Mode, prev levels, f frame.Frame) []byte {
	t.Helper()
	got := a.mustWrite(t, size, m, prev, f)
	if got.e != api.OK {
		t.Fatalf("%+v into %d bytes of %v behind %v: %d", f, size, m, prev, got.e)
	}
	return got.packet
}

// mustFit holds the frame of a wish to the words.
func mustFit(t *testing.T, size int, m mode.Mode, prev levels, w pack.Wish) frame.Frame {
	t.Helper()
	want := fittedByWords(size, m, prev, w)
	f, e := pack.Fit(size, m, prev, w)
	if e != api.OK || f != want {
		t.Fatalf("%+v for %d bytes of %v behind %v: %d, %+v, not %+v", w, size, m, prev, e, f, want)
	}
	return f
}

// mustPut fits a wish, and puts its frame, unless it is too long.
func (a all) mustPut(t *testing.T, size int, m mode.Mode, prev levels, w pack.Wish) (frame.Frame, written) {
	t.Helper()
	f := mustFit(t, size, m, prev, w)
	got := a.mustWrite(t, size, m, prev, f)
	if got.e == api.ErrArg {
		t.Fatalf("%+v, fitted for %d bytes of %v behind %v, can't be put", f, size, m, prev)
	}
	return f, got
}
