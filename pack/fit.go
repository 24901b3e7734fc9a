package pack

import (
	"spinet/api"
	"spinet/frame"
	"spinet/mode"
)

// Wish is what a frame is to be like.
type Wish struct {
	Silent, Intra bool
	Spread, Trim  uint8
	Steps         [api.MaxChans][api.MaxBands]int8
	Fines         [api.MaxChans][api.MaxBands]uint8
	Ranks         [api.MaxChans][api.MaxBands]uint64
}

// Fit is the frame of a wish.
func Fit(size int, m mode.Mode, prev [api.MaxChans][api.MaxBands]int, w Wish) (frame.Frame, api.Errno) {
	j, e := newJob(size, m, prev, w)
	if e != api.OK {
		return frame.Frame{}, e
	}
	if _, e := j.put(); e != api.OK {
		return frame.Frame{}, e
	}
	return j.Frame, api.OK
}

func (w Wish) head() frame.Frame {
	return frame.Frame{Silent: w.Silent, Intra: w.Intra, Spread: int(w.Spread % spreads), Trim: int(w.Trim % trims)}
}

func (w Wish) energy(j *job, ch, band int) int {
	step := max(-stepMost, min(int(w.Steps[ch][band]), stepMost))
	return max(0, min(j.guess(ch, band)+step, api.MaxE))
}

func (w Wish) fine(j *job, ch, band int) int {
	return int(w.Fines[ch][band]) % (1 << j.F)
}

func (w Wish) vector(j *job, ch, band int, x []int) {
	j.fill(x, j.K[band], w.Ranks[ch][band])
}

// fill writes the vector of k pulses into x that is by a number.
func (j *job) fill(x []int, k int, number uint64) {
	if len(x) <= wholeMost {
		j.Into(x, k, number%j.V(len(x), k))
		return
	}
	half, parts := len(x)/2, uint64(k+1)
	former := int(number % parts)
	j.fill(x[:half], former, number/parts)
	j.fill(x[half:], k-former, number/parts)
}
