package rc

// Decoder of such bytes.
type Decoder struct {
	text  string
	read  int // how many bytes of it were
	code  uint32
	width uint32
	total uint32 // of the last Where: Take is told a part of it
	bad   bool
}

// NewDecoder begins.
func NewDecoder(s string) *Decoder {
	d := &Decoder{text: s, width: wholeRange}
	if d.next() != 0 {
		d.bad = true
	}
	for range 4 {
		d.code = d.code<<8 + d.next()
	}
	return d
}

// Bit by a probability.
func (d *Decoder) Bit(p *uint16) int {
	if d == nil || !isProbability(p) {
		return 0
	}
	b := border(d.width, *p)
	bit := 0
	if d.code < b {
		d.width = b
	} else {
		bit = 1
		d.code -= b
		d.width -= b
	}
	learn(p, bit)
	d.turn()
	return bit
}

// Direct bits.
func (d *Decoder) Direct(n int) uint32 {
	if d == nil || n > mostBits {
		return 0
	}
	v := uint32(0)
	for range n {
		d.width /= 2
		v *= 2
		if d.code >= d.width {
			d.code -= d.width
			v++
		}
		d.turn()
	}
	return v
}

// Where in a total it lies.
func (d *Decoder) Where(total uint32) uint32 {
	if d == nil || !isTotal(total) {
		return 0
	}
	d.total = total
	return min(d.code/(d.width/total), total-1)
}

// Take a part, in which it lies.
func (d *Decoder) Take(start, size uint32) {
	if d == nil || !isPart(start, size, d.total) {
		return
	}
	r := d.width / d.total
	d.code -= r * start
	d.width = r * size
	d.turn()
}

// Done: were all bytes read, and is nothing left?
func (d *Decoder) Done() bool {
	return d != nil && d.read == len(d.text) && d.code == 0
}

// Bad: were there too few bytes, or isn't the first one 0?
func (d *Decoder) Bad() bool {
	return d == nil || d.bad
}

func (d *Decoder) turn() {
	for d.width < leastRange {
		d.width <<= 8
		d.code = d.code<<8 + d.next()
	}
}

// next byte; beyond the last one it is 0, and the decoder is bad for good.
func (d *Decoder) next() uint32 {
	if d.read == len(d.text) {
		d.bad = true
		return 0
	}
	b := d.text[d.read]
	d.read++
	return uint32(b)
}
