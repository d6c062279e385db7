package rc

// Encoder of bits, by ranges.
type Encoder struct {
	// settled is what stands ahead of the lowest four bytes of Low: the byte 0, and one byte for each turn.
	settled []byte
	low     uint32
	width   uint32
}

// NewEncoder begins.
func NewEncoder() *Encoder {
	return &Encoder{settled: []byte{0}, width: wholeRange}
}

// Bit by a probability, that learns from it.
func (e *Encoder) Bit(p *uint16, bit int) {
	if e == nil || !isProbability(p) {
		return
	}
	b := border(e.width, *p)
	if bit == 0 {
		e.width = b
	} else {
		e.raise(b)
		e.width -= b
	}
	learn(p, bit)
	e.turn()
}

// Direct bits of a number, the highest first.
func (e *Encoder) Direct(v uint32, n int) {
	if e == nil || n > mostBits {
		return
	}
	for i := range n {
		e.width /= 2
		if v>>(n-1-i)&1 == 1 {
			e.raise(e.width)
		}
		e.turn()
	}
}

// Part of a total: from start on, so large.
func (e *Encoder) Part(start, size, total uint32) {
	if e == nil || !isPart(start, size, total) {
		return
	}
	r := e.width / total
	e.raise(r * start)
	e.width = r * size
	e.turn()
}

// End: all bytes.
func (e *Encoder) End() string {
	if e == nil {
		return ""
	}
	last := []byte{byte(e.low >> 24), byte(e.low >> 16), byte(e.low >> 8), byte(e.low)}
	return string(e.settled) + string(last)
}

// raise Low by n. What goes over its lowest four bytes is carried into those ahead; the byte 0 is never met, as Low and Range together stay below what so many bytes can hold.
func (e *Encoder) raise(n uint32) {
	e.low += n
	if e.low >= n {
		return
	}
	for i := len(e.settled) - 1; i > 0; i-- {
		e.settled[i]++
		if e.settled[i] != 0 {
			return
		}
	}
}

func (e *Encoder) turn() {
	for e.width < leastRange {
		e.settled = append(e.settled, byte(e.low>>24))
		e.low <<= 8
		e.width <<= 8
	}
}
