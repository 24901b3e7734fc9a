package pack

import (
	"spinet/api"
	"spinet/frame"
	"spinet/mode"
	"spinet/rank"
	"spinet/sym"
	"spinet/writer"
)

const (
	firstTotal = 32
	spreads    = 4
	trims      = 8
	stepMost   = 7
	// spare are the bits that aren't shared out.
	spare = 16
	// More numbers than these are put by halves.
	wholeMost = 8
)

// job puts a frame made after a model: its own frame becomes what was put so
// far.
type job struct {
	*writer.Writer
	frame.Frame
	mode.Mode
	frame.Tools
	prev  levels
	model model
}

// newJob is a job of which nothing is put.
func newJob(size int, m mode.Mode, prev levels, of model) (*job, api.Errno) {
	w, e := writer.New(size)
	switch {
	case e != api.OK:
		return nil, e
	case !m.Right():
		return nil, api.ErrArg
	}
	return &job{Writer: w, Mode: m, Tools: frame.Quick(), prev: prev, model: of}, api.OK
}

// put puts all of the frame, in the order in which it is read, and tells its
// seed. A writer goes on when it is full: what is left is below 0 then, so the
// frame has neither fine bits nor pulses.
func (j *job) put() (uint32, api.Errno) {
	if e := j.putFirst(); e != api.OK || j.Silent {
		return j.Rng(), e
	}
	if e := j.putTrim(); e != api.OK {
		return 0, e
	}
	if e := j.each(j.putEnergy); e != api.OK {
		return 0, e
	}
	j.F = frame.Fines(j.Left(), j.Chans)
	if e := j.each(j.putFine); e != api.OK {
		return 0, e
	}
	j.K = j.Alloc(j.Mode, j.Trim, j.Left()-spare)
	// The vectors take of the range, too: the seed is what it is ahead of them.
	seed := j.Rng()
	return seed, j.each(j.putVector)
}

// each does something of each band, and in it of each channel, until it is
// refused.
func (j *job) each(do func(ch, band int) api.Errno) api.Errno {
	for band := range j.Bands() {
		for ch := range j.Chans {
			if e := do(ch, band); e != api.OK {
				return e
			}
		}
	}
	return api.OK
}

// putFirst puts what kind of frame it is.
func (j *job) putFirst() api.Errno {
	head := j.model.head()
	if head.Spread < 0 || head.Spread >= spreads {
		return api.ErrArg
	}
	j.Silent, j.Intra, j.Spread = head.Silent, head.Intra, head.Spread
	first := 4 * head.Spread
	if head.Intra {
		first += 2
	}
	if head.Silent {
		first++
	}
	return sym.PutUint(j.Writer, first, firstTotal)
}

// putTrim puts the trim.
func (j *job) putTrim() api.Errno {
	j.Trim = j.model.head().Trim
	return sym.PutUint(j.Writer, j.Trim, trims)
}

// guess is what is guessed of an energy. What is farther away from all energies
// than a step is held, so that neither sums nor differences of it go round.
func (j *job) guess(ch, band int) int {
	return max(-stepMost-1, min(j.Guess(j.prev, ch, band), api.MaxE+stepMost+1))
}

// putEnergy puts a band's energy.
func (j *job) putEnergy(ch, band int) api.Errno {
	energy := j.model.energy(j, ch, band)
	if energy < 0 || energy > api.MaxE {
		return api.ErrArg
	}
	j.E[ch][band] = energy
	return sym.PutStep(j.Writer, energy-j.guess(ch, band))
}

// putFine puts a band's fine number.
func (j *job) putFine(ch, band int) api.Errno {
	fine := j.model.fine(j, ch, band)
	if fine < 0 || fine >= 1<<j.F {
		return api.ErrArg
	}
	j.Q[ch][band] = fine
	return j.Raw(uint32(fine), j.F)
}

// putVector puts a band's vector.
func (j *job) putVector(ch, band int) api.Errno {
	from := j.From(band)
	x := j.X[ch][from : from+j.Width(band)]
	j.model.vector(j, ch, band, x)
	if rank.Pulses(x...) != j.K[band] {
		return api.ErrArg
	}
	j.putNumbers(x)
	return api.OK
}

// putNumbers puts a vector. It has no more pulses than its band may have, so it
// has a rank, and nothing of it is refused.
func (j *job) putNumbers(x []int) {
	k := rank.Pulses(x...)
	if k == 0 {
		return
	}
	if len(x) > wholeMost {
		j.putHalves(x, k)
		return
	}
	i, _ := j.Rank(x)
	sym.PutUint(j.Writer, int(i), int(j.V(len(x), k)))
}

// putHalves puts a vector that has too many numbers for a single rank.
func (j *job) putHalves(x []int, k int) {
	half := len(x) / 2
	sym.PutUint(j.Writer, rank.Pulses(x[:half]...), k+1)
	j.putNumbers(x[:half])
	j.putNumbers(x[half:])
}
