package pack

import (
	mathbits "math/bits"

	"kist/api"
	"kist/bits"
	"kist/fse"
)

const (
	numbers   = 3 // of a step
	leastLen  = 4
	leastDist = 1
	shareLog  = 6
	mostCodes = 17 // 0, and how many bits a number may have
	byteBits  = 8
)

// partsOf tells which number of a step each stream has, counted from the least that it may be.
func partsOf() [numbers]func(api.Seq) int {
	return [numbers]func(api.Seq) int{
		func(step api.Seq) int { return step.Lits },
		func(step api.Seq) int { return step.Len - leastLen },
		func(step api.Seq) int { return step.Dist - leastDist },
	}
}

// codeOf is the code of a number: how many bits it has.
func codeOf(v int) int { return mathbits.Len(uint(v)) }

// restBits is how many bits a number of that code has below its highest one.
func restBits(code int) int { return max(code-1, 0) }

func putSteps(s *sink, steps []api.Seq) {
	s.number(len(steps))
	if len(steps) == 0 {
		return
	}
	for _, part := range partsOf() {
		putStream(s, steps, part)
	}
	s.sized(restsOf(steps))
}

func putStream(s *sink, steps []api.Seq, part func(api.Seq) int) {
	var counts [mostCodes]int
	symbols := make([]int, len(steps))
	for i, step := range steps {
		symbols[i] = codeOf(part(step))
		counts[symbols[i]]++
	}
	share, e := fse.Share(counts[:], shareLog)
	s.keep(e)
	s.add(fse.PutShare(share, shareLog))
	s.sized(fse.Encode(share, shareLog, symbols))
}

// restsOf is of all steps' numbers what their codes do not tell.
func restsOf(steps []api.Seq) ([]byte, api.Errno) {
	w := bits.NewWriter()
	parts := partsOf()
	for _, step := range steps {
		for _, part := range parts {
			v := part(step)
			n := restBits(codeOf(v))
			if e := w.Put(n, v&(1<<n-1)); e != api.OK {
				return nil, e
			}
		}
	}
	return w.Bytes(), api.OK
}

// takeSteps is the steps of what is n bytes unpacked.
func takeSteps(s *source, n int) []api.Seq {
	many := s.number()
	if !s.ask(many <= n/leastLen) || many == 0 {
		return nil
	}
	var streams [numbers][]int
	for i := range streams {
		streams[i] = takeStream(s, many)
	}
	r := bits.NewReader(s.sized())
	if s.amiss {
		return nil // the streams may be shorter than they should be
	}
	steps := make([]api.Seq, many)
	for i := range steps {
		steps[i] = takeStep(s, r, streams, i)
	}
	s.ask(onlyFills(r))
	return steps
}

func takeStream(s *source, many int) []int {
	share, log, size, e := fse.GetShare(s.left)
	s.ask(e == api.OK && len(share) <= mostCodes)
	s.bytes(size)
	symbols, e := fse.Decode(share, log, s.sized(), many)
	s.ask(e == api.OK)
	return symbols
}

// takeStep is the step whose codes stand at place at of the streams, and whose rests come next.
func takeStep(s *source, r *bits.Reader, streams [numbers][]int, at int) api.Seq {
	var v [numbers]int
	for i, stream := range streams {
		code := stream[at]
		rest, e := r.Take(restBits(code))
		s.ask(e == api.OK)
		v[i] = rest
		if code > 0 {
			v[i] += 1 << restBits(code)
		}
	}
	return api.Seq{Lits: v[0], Len: v[1] + leastLen, Dist: v[2] + leastDist}
}

// onlyFills says whether what is left of a row of bits is no more than bits 0 that fill its last byte.
func onlyFills(r *bits.Reader) bool {
	if r.Left() >= byteBits {
		return false
	}
	rest, e := r.Take(r.Left())
	return e == api.OK && rest == 0
}
