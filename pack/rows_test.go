package pack_test

import (
	"bytes"
	"testing"

	"spinet/api"
	"spinet/frame"
	"spinet/mode"
	"spinet/pack"
)

// numbers are those of the channels.
type numbers = [api.MaxChans][api.MaxN]int

// rows are wishes, behind the energies of full, their frames and packets as
// literals.
var rows = []struct {
	m      mode.Mode
	wish   pack.Wish
	frame  frame.Frame
	packet []byte
	seed   uint32
}{
	{
		at(0, 1), pack.Wish{
			Spread: 0x72, Trim: 0xca,
			Steps: [2][5]int8{{2, 2, 3, 1, -3}, {1, 2, -3, 1, -2}},
			Fines: [2][5]uint8{{0xd4, 0x74, 0x4e, 0xdc, 0x3f}},
			Ranks: [2][5]uint64{{0xce95c81461eb6cf, 0x1f, 0x78, 0x7ffffff}, {0x1dc383fd23b6ce7d, 0x2f345691}},
		}, frame.Frame{
			Spread: 2, Trim: 2,
			E: levels{{5, 16, 18}},
			K: pulses{2, 2, 3},
			X: numbers{{-2, 0, -2, 0, 0, -2, 0, 1}},
		},
		[]byte{0x42, 0xa5, 0x1e, 0x90, 0x45, 0xc0, 0, 0, 0}, 1228800,
	},
	{
		at(0, 2), pack.Wish{
			Intra: true, Spread: 0x24, Trim: 0xe0,
			Steps: [2][5]int8{{3, 3, 1, -1, 3}, {-3, -2, 1, -1, 0}},
			Fines: [2][5]uint8{{0xca, 0x1c, 0x19, 0xc8, 0x6c}, {0x74, 0xbc, 0xbf, 0x9a, 0xdc}},
			Ranks: [2][5]uint64{{0x1fffffff, 0x74d57cf9, 0xfffffffffffffff}, {0x5fd66c01280e3ded, 0xffffff, 0x88b7bae8895451cb}},
		}, frame.Frame{
			Intra: true,
			E:     levels{{11, 14, 15}, {5, 3, 4}},
			K:     pulses{32, 32, 32},
			X:     numbers{{-32, 0, -30, -2, 9, 16, -6, -1}, {-27, -5, -32, 0, 3, -7, -1, -21}},
		},
		[]byte{0x10, 0xca, 0, 0xbb, 0xc9, 0x5f, 0x9d, 0x5e, 0x81, 0x16, 0xf5, 0, 0, 0, 0, 0, 0, 0x03, 0x97, 0xff}, 174960,
	},
	{
		at(1, 1), pack.Wish{
			Intra: true, Spread: 0xbd, Trim: 0x2b,
			Steps: [2][5]int8{{2, 1, 1, 1, 1}, {2, 3, -2, -2, -1}},
			Fines: [2][5]uint8{{0xb0, 0x31, 0xe6, 0xc8, 0xa4}, {0x61, 0x90, 0xc8, 0x59, 0x37}},
			Ranks: [2][5]uint64{{0xa8, 0x7e2dc0d, 0x3ffffffff, 0x50146063b8, 0x677dc3e771}},
		}, frame.Frame{
			Intra: true, Spread: 1, Trim: 3, F: 1,
			E: levels{{10, 11, 12, 13}},
			Q: levels{{0, 1}},
			K: pulses{19, 16, 23, 10},
			X: numbers{{-4, 15, -3, -13, 7, 7, -2, -7, 3, 3, 0, 0, 0, 3, 1}},
		},
		[]byte{0x33, 0x9f, 0x43, 0xad, 0x8a, 0x8e, 0x70, 0x2a, 0, 0, 0, 0x29, 0xc5, 0x72}, 933120,
	},
	{
		at(2, 1), pack.Wish{
			Spread: 0xbd, Trim: 0x4e,
			Steps: [2][5]int8{{0, 0, 2, 3, 1}, {1, 0, -1, 2, 0}},
			Fines: [2][5]uint8{{0xda, 0x3f, 0x3a, 0x4f, 0x39}},
			Ranks: [2][5]uint64{{0x1fffffff, 0x2c859d67f, 0x3, 0x5460e814, 0x58c0d843eb8}},
		}, frame.Frame{
			Spread: 1, Trim: 6, F: 1,
			E: levels{{3, 14, 17, 12, 27}},
			Q: levels{{0, 1, 0, 1, 1}},
			K: pulses{9, 8, 14, 10, 10},
			X: numbers{{8, -1, -8, 0, 0, 0, 1, -13, 0, 3, -1, 0, 1, 0, 2, 3, 2, -1, 0, -1, -4, 0, 0, 2}},
		},
		[]byte{0x26, 0x10, 0x59, 0x40, 0x44, 0xb7, 0x76, 0x61, 0x7f, 0, 0, 0, 0, 0x03, 0x12, 0xba, 0x50, 0x7a}, 216000,
	},
	{
		at(2, 2), pack.Wish{
			Spread: 0x3b, Trim: 0xfc,
			Steps: [2][5]int8{{1, -2, -2, 0, -3}, {0, 0, -2, -2, -1}},
			Fines: [2][5]uint8{{0xee, 0xe7, 0x7e, 0x0b, 0xcc}, {0x49, 0x77, 0xeb, 0xf4, 0x89}},
			Ranks: [2][5]uint64{
				{0x3, 0x12a98, 0xa3e18409ffc164b6, 0xad7d6c2c8567ef22, 0x3541fdccf},
				{0xeeb32af, 0x3b9b, 0x7fffffffffff, 0x3729f64d7e4, 0x34f80cba2695fd39},
			},
		}, frame.Frame{
			Spread: 3, Trim: 4, F: 2,
			E: levels{{4, 12, 13, 9, 23}, {5, 30, 29, 5}},
			Q: levels{{2, 3, 2, 3}, {1, 3, 3, 0, 1}},
			K: pulses{32, 32, 32, 10, 10},
			X: numbers{
				{1, -31, -6, 26, 5, -2, -5, 20, 1, 0, 0, -1, -3, -4, 0, 1, -1, 0, 0, -3, 1, 0, 0, 0, -1, 0, 0, -3, 1},
				{12, -20, 7, -25, 0, -9, 17, -6, 2, 0, -4, 0, 1, -1, 0, 2, 0, 0, 0, 0, -1, 1, 1, 0, -3, 0, 0, 1, 1, -1, 0, 1},
			},
		},
		[]byte{
			0x64, 0x57, 0xc2, 0x07, 0xd5, 0xdd, 0x51, 0xd4, 0x3c, 0xcc, 0x02, 0xb3, 0x8a, 0x3c, 0x2a, 0xd6, 0xc9, 0, 0, 0,
			0, 0, 0, 0, 0, 0, 0, 0, 0, 0x16, 0x28, 0xe3, 0x99, 0x91, 0x48, 0xbf, 0xeb, 0x64, 0x3e, 0xf6,
		}, 296568,
	},
}

func TestRows(t *testing.T) {
	for _, row := range rows {
		size := len(row.packet)
		f, e := pack.Fit(size, row.m, full, row.wish)
		if e != api.OK || f != row.frame {
			t.Errorf("%v: %d, %+v, not %+v", row.m, e, f, row.frame)
		}
		packet, seed, e := pack.Write(size, row.m, full, row.frame)
		if e != api.OK || seed != row.seed || !bytes.Equal(packet, row.packet) {
			t.Errorf("%v: % x, %d, %d, not % x, %d", row.m, packet, seed, e, row.packet, row.seed)
		}
	}
}

// A wish of nothing, by hand, of 8 samples and a channel: the first number and
// the trim take a byte, three steps that are 0 none. Of 8 bytes 32 bits are left,
// so 16 are shared out; the first vector of each band is put, which is a nought
// as all that is ahead of it.
func TestNothingByHand(t *testing.T) {
	for _, c := range []struct {
		size int
		k    pulses
		x    [api.MaxN]int
	}{
		{4, pulses{}, [api.MaxN]int{}}, // nothing is left
		{5, pulses{}, [api.MaxN]int{}},
		{6, pulses{}, [api.MaxN]int{}}, // 0 are shared out
		{7, pulses{1, 0, 1}, [api.MaxN]int{1: 1, 7: 1}},
		{8, pulses{3, 2, 2}, [api.MaxN]int{1: 3, 3: 2, 7: 2}},
	} {
		want := frame.Frame{E: levels{{3, 14, 15}}, K: c.k}
		want.X[0] = c.x
		f, e := pack.Fit(c.size, at(0, 1), full, pack.Wish{})
		if e != api.OK || f != want {
			t.Errorf("%d bytes: %d, %+v, not %+v", c.size, e, f, want)
		}
		packet, seed, e := pack.Write(c.size, at(0, 1), full, want)
		if e != api.OK || seed != 512000 || !bytes.Equal(packet, make([]byte, c.size)) {
			t.Errorf("%d bytes: % x, %d, %d", c.size, packet, seed, e)
		}
	}
}
