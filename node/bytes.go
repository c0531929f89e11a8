package node

// written is the bytes of a node that may be.
func written(n Node) []byte {
	out := make([]byte, 0, Size(n))
	out = append(out, byte(len(n.Keys)))
	for i := range len(n.Keys) {
		out = putText(out, n.Keys[i])
		if n.Leaf {
			out = putText(out, n.Vals[i])
		} else {
			out = append(out, byte(n.Kids[i]), byte(n.Kids[i]>>8))
		}
	}
	return out
}

func putText(out []byte, text string) []byte {
	out = append(out, byte(len(text)))
	return append(out, text...)
}

// read is the node whose bytes these are, whether it may be or not; false, if they are too few or too many.
func read(leaf bool, data []byte) (Node, bool) {
	s := source{data: data}
	n := Node{Leaf: leaf}
	for range s.number() {
		n.Keys = append(n.Keys, s.text())
		if leaf {
			n.Vals = append(n.Vals, s.text())
		} else {
			low := s.number()
			n.Kids = append(n.Kids, low+s.number()<<8)
		}
	}
	return n, !s.short && len(s.data) == 0
}

// source is bytes that are taken from the front. Once some were missing it is short for good, so that this is asked just at the end.
type source struct {
	data  []byte
	short bool
}

func (s *source) take(many int) []byte {
	if s.short || many > len(s.data) {
		s.short = true
		return nil
	}
	taken := s.data[:many]
	s.data = s.data[many:]
	return taken
}

// number is one byte, 0 if it is missing.
func (s *source) number() int {
	taken := s.take(1)
	if len(taken) == 0 {
		return 0
	}
	return int(taken[0])
}

func (s *source) text() string { return string(s.take(s.number())) }
