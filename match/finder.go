package match

const (
	shortest = 4
	longest  = 259

	slotBits = 12
	slots    = 1 << slotBits
)

// found is a match; of length 0 there is none.
type found struct {
	length int
	dist   int
}

// finder links places with the same four bytes, the nearest first. A link is a place and one, so that 0 is none.
type finder struct {
	data   []byte
	window int
	linked int        // so many places are linked
	heads  [slots]int // of each slot the last place
	ahead  []int      // of each place the one that stood ahead of it in its slot
}

func newFinder(data []byte, window int) *finder {
	return &finder{data: data, window: window, ahead: make([]int, len(data))}
}

// slot is where places with the four bytes that stand at at are linked. Other bytes may fall into the same one.
func (f *finder) slot(at int) int {
	b := f.data[at:]
	word := uint32(b[0]) | uint32(b[1])<<8 | uint32(b[2])<<16 | uint32(b[3])<<24
	return int(word * 2654435761 >> (32 - slotBits))
}

// linkAhead links all places ahead of at, which has four bytes behind it.
func (f *finder) linkAhead(at int) {
	for ; f.linked < at; f.linked++ {
		slot := f.slot(f.linked)
		f.ahead[f.linked] = f.heads[slot]
		f.heads[slot] = f.linked + 1
	}
}

// best is the best match at at. Places are asked in their order from at back, so only a longer one is better.
func (f *finder) best(at int) found {
	most := min(longest, len(f.data)-at)
	var best found
	if most < shortest {
		return best
	}
	f.linkAhead(at)
walk:
	for link := f.heads[f.slot(at)]; link > 0; link = f.ahead[link-1] {
		place := link - 1
		switch {
		case best.length == most, at-place > f.window:
			break walk
		case f.data[place+best.length] != f.data[at+best.length]: // it is no longer one
			continue walk
		}
		if n := f.same(place, at, most); n >= shortest && n > best.length {
			best = found{length: n, dist: at - place}
		}
	}
	return best
}

// same is how many bytes from two places on are the same, at most so many.
func (f *finder) same(place, at, most int) int {
	n := 0
	for n < most && f.data[place+n] == f.data[at+n] {
		n++
	}
	return n
}
