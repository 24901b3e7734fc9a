package frame_test

import (
	"testing"

	"spinet/api"
	"spinet/frame"
	"spinet/mode"
)

// numbers are those of the channels.
type numbers = [api.MaxChans][api.MaxN]int

// rows are frames as literals, behind the energies of full.
var rows = []struct {
	bytes []byte
	m     mode.Mode
	frame frame.Frame
	seed  uint32
}{
	{
		[]byte{0x15, 0x35, 0x95, 0x3C, 0x05, 0x95, 0xF4, 0x6C, 0xC0, 0xBD, 0x61, 0xC6, 0xB7, 0x0F},
		at(0, 1), frame.Frame{
			Intra: true, Trim: 5, F: 1,
			E: levels{{8, 10, 17}},
			Q: levels{{1, 1, 1}},
			K: pulses{32, 32, 32},
			X: numbers{{-9, -23, -1, -31, -2, 1, -18, -11}},
		}, 1638400,
	},
	{
		[]byte{0x40, 0x28, 0xE2, 0xA8, 0x6C, 0xC2, 0xC6, 0x96, 0x35, 0x11, 0x2F, 0x5C, 0x55, 0x1D, 0xC0, 0x90, 0x57, 0x6E, 0xF5, 0x84, 0x55},
		at(0, 1), frame.Frame{
			Spread: 2, F: 2,
			E: levels{{3, 13, 16}},
			Q: levels{{1, 1, 1}},
			K: pulses{32, 32, 32},
			X: numbers{{23, 9, -19, 13, -7, 20, -3, -2}},
		}, 103680,
	},
	{
		[]byte{0x74, 0xAE, 0xC3, 0x16, 0xCA, 0x19, 0xA1, 0x04, 0x0D, 0x79, 0x83, 0x73, 0x7B, 0xC9, 0x07, 0x42, 0xD6, 0x71, 0x7B, 0xD7, 0x37},
		at(0, 2), frame.Frame{
			Intra: true, Spread: 3, Trim: 4,
			E: levels{{6, 7, 3}, {8, 13, 20}},
			Q: levels{},
			K: pulses{32, 32, 32},
			X: numbers{{-3, 29, -18, -14, 10, -7, -7, -8}, {-20, 12, -3, -29, 0, 16, 11, -5}},
		}, 7372800,
	},
	{
		[]byte{0x10, 0x83, 0x09, 0xBB, 0x4A, 0x65, 0x10, 0xEB, 0x1C, 0x2E, 0x00, 0x15, 0x5E, 0x26, 0x86, 0xBA, 0xB5, 0x5A, 0x01, 0x11},
		at(1, 1), frame.Frame{
			Intra: true, F: 1,
			E: levels{{7, 8, 6, 13}},
			Q: levels{{1}},
			K: pulses{32, 32, 32, 10},
			X: numbers{{-18, 14, 15, -17, -13, 4, -1, -14, 0, 0, 5, -1, 1, 3}},
		}, 103680,
	},
	{
		[]byte{0x05, 0xCB, 0x72, 0xF3, 0xD7, 0x60, 0xB8, 0xB9, 0x5D, 0xF3, 0xEF, 0xDE, 0x3F, 0xBB, 0x3E, 0x54, 0x5D, 0x4B, 0x9D, 0x63, 0x33},
		at(1, 2), frame.Frame{
			Trim: 5,
			E:    levels{{6, 14, 17, 9}, {0, 30, 30, 7}},
			Q:    levels{},
			K:    pulses{16, 15, 24, 10},
			X:    numbers{{11, 5, 8, 7, -1, -6, 11, -6, 0, 6, 1, -1, 1, 0, 0, -1}, {13, -3, -6, -9, 4, -15, -2, -3, -2, 0, -1, -3, -1, -1, -1, 1}},
		}, 84360,
	},
	{
		[]byte{0x52, 0x1F, 0x93, 0xBA, 0x6E, 0x16, 0xAE, 0x36, 0xA9, 0x18, 0xA0, 0xD0, 0xDC, 0x02, 0x0E, 0xE0, 0x8F, 0xFD, 0xE1, 0xCB, 0xA8, 0x40},
		at(2, 1), frame.Frame{
			Intra: true, Spread: 2, Trim: 2, F: 2,
			E: levels{{8, 9, 8, 3, 7}},
			Q: levels{{0, 0, 0, 1}},
			K: pulses{32, 32, 32, 10, 10},
			X: numbers{{5, -27, -3, -29, 1, -8, -10, 13, -4, -2, 0, 0, 1, -1, 1, -1, 1, 1, 0, 3, 1, 1, 2, -1}},
		}, 3317760,
	},
	{
		[]byte{0x01, 0x64, 0x73, 0xB2, 0xE9, 0xDD, 0xA6, 0xA1, 0x94, 0xF7, 0x7E, 0x60, 0x02, 0xEE, 0x7B, 0xE7, 0x6E, 0xF3, 0x4C, 0x81, 0x22, 0xFA, 0xB6, 0x3A, 0xF3, 0xA8},
		at(2, 2), frame.Frame{
			Trim: 1, F: 1,
			E: levels{{4, 11, 10, 4, 24}, {4, 31, 31, 6, 1}},
			Q: levels{{0, 0, 0, 0, 1}, {0, 1, 1, 1, 1}},
			K: pulses{5, 4, 5, 5, 5},
			X: numbers{{-3, 2, -3, 1, 4, 0, 1, 0, 0, 0, 2, 0, 0, 0, 0, -3, 0, -1, 1, 0, 0, 1, 0, 1, 0, 0, 0, 0, 1}, {-5, 0, -1, 3, 1, -3, 0, 1, 0, -2, 2, 0, 0, 0, 0, 1, 0, 0, 0, 0, 0, 0, 1, 0, -1, 0, 1, 0, 0, -2}},
		}, 614800,
	},
	{
		[]byte{0x76, 0xE7, 0x92, 0x2D, 0x8B, 0xA9, 0xC8, 0x9D, 0xC2, 0x21, 0x93, 0x5E, 0x33, 0x9F, 0x5B, 0x3B, 0x31, 0xCF, 0x1A, 0x08, 0x06, 0x68, 0x17, 0x39, 0x62},
		at(2, 2), frame.Frame{
			Intra: true, Spread: 3, Trim: 6, F: 1,
			E: levels{{4, 3, 4, 4, 4}, {14, 11, 7, 8, 4}},
			Q: levels{{0, 0, 0, 1, 1}, {1, 0, 1}},
			K: pulses{2, 2, 3, 5, 5},
			X: numbers{{0, 2, -2, 0, 0, -2, 0, 1, 0, 2, 1, 0, 0, 1, 0, 1, 1, 1, 1, 1, 0, 0, 0, 0, 0, 0, 0, 0, 0, 0, 0, -1}, {0, -2, -2, 0, 1, -1, 0, 1, -1, 1, 0, 1, -2, 0, 0, 0, 1, 2, 1, 0, 0, 0, 1}},
		}, 437280,
	},
}

func TestRows(t *testing.T) {
	b := newBoth()
	for _, c := range rows {
		want := told{c.frame, c.seed, true}
		if got, _ := b.mustRead(t, c.bytes, c.m, full); got != want {
			t.Errorf("%x in %v: %+v, not %+v", c.bytes, c.m, got, want)
		}
	}
}
