package rc

import (
	"math/big"
	"math/rand"
)

// plainEncoder is the encoder as the chapter says it: Low is one number without a bound.
type plainEncoder struct {
	low   *big.Int
	width uint64
	turns int
}

func newPlainEncoder() *plainEncoder {
	return &plainEncoder{low: new(big.Int), width: 1<<32 - 1}
}

func (e *plainEncoder) raise(n uint64) {
	e.low.Add(e.low, new(big.Int).SetUint64(n))
}

func (e *plainEncoder) turn() {
	for e.width < 1<<24 {
		e.low.Mul(e.low, big.NewInt(256))
		e.width *= 256
		e.turns++
	}
}

func (e *plainEncoder) bit(p int, bit int) int {
	b := e.width / 2048 * uint64(p)
	if bit == 0 {
		e.width = b
		p += (2048 - p) / 32
	} else {
		e.raise(b)
		e.width -= b
		p -= p / 32
	}
	e.turn()
	return p
}

func (e *plainEncoder) direct(bit int) {
	e.width /= 2
	if bit == 1 {
		e.raise(e.width)
	}
	e.turn()
}

func (e *plainEncoder) part(start, size, total uint32) {
	r := e.width / uint64(total)
	e.raise(r * uint64(start))
	e.width = r * uint64(size)
	e.turn()
}

// end panics where Low doesn't go into its bytes.
func (e *plainEncoder) end() string {
	return "\x00" + string(e.low.FillBytes(make([]byte, e.turns+4)))
}

// plainDecoder is the decoder as the chapter says it, of bytes that go on with zeros.
type plainDecoder struct {
	text        string
	read        int
	code, width uint64
}

func newPlainDecoder(s string) *plainDecoder {
	d := &plainDecoder{text: s, read: 1, width: 1<<32 - 1}
	for range 4 {
		d.code = d.code*256 + d.next()
	}
	return d
}

func (d *plainDecoder) next() uint64 {
	d.read++
	if d.read > len(d.text) {
		return 0
	}
	return uint64(d.text[d.read-1])
}

func (d *plainDecoder) turn() {
	for d.width < 1<<24 {
		d.width *= 256
		d.code = (d.code*256 + d.next()) % (1 << 32)
	}
}

func (d *plainDecoder) bit(p int) (int, int) {
	b := d.width / 2048 * uint64(p)
	bit := 0
	if d.code < b {
		d.width = b
		p += (2048 - p) / 32
	} else {
		bit = 1
		d.code -= b
		d.width -= b
		p -= p / 32
	}
	d.turn()
	return bit, p
}

func (d *plainDecoder) direct() uint32 {
	d.width /= 2
	bit := uint32(0)
	if d.code >= d.width {
		bit = 1
		d.code -= d.width
	}
	d.turn()
	return bit
}

func (d *plainDecoder) where(total uint32) uint32 {
	w := d.code / (d.width / uint64(total))
	if w > uint64(total)-1 {
		return total - 1
	}
	return uint32(w)
}

func (d *plainDecoder) take(start, size, total uint32) {
	r := d.width / uint64(total)
	d.code = (d.code + 1<<32 - r*uint64(start)) % (1 << 32)
	d.width = r * uint64(size)
	d.turn()
}

func (d *plainDecoder) bad() bool {
	return d.read > len(d.text) || d.text[0] != 0
}

func (d *plainDecoder) done() bool {
	return d.read >= len(d.text) && d.code == 0
}

// The kinds of steps.
const (
	bitStep = iota
	directStep
	partStep
)

// step that both coders can be asked for; which names the probability of a bit.
type step struct {
	kind, which, bit   int
	v                  uint32
	n                  int
	start, size, total uint32
}

// edgeProbs are what probabilities begin with: the edges, and where learning stops.
func edgeProbs() []uint16 {
	return []uint16{Start, 1, 2, 31, 32, 33, 2015, 2016, 2017, 2046, 2047, 1023}
}

func randomStep(r *rand.Rand) step {
	switch r.Intn(4) {
	case 0:
		return step{kind: directStep, v: r.Uint32(), n: r.Intn(33)}
	case 1:
		return randomPart(r)
	default:
		return step{kind: bitStep, which: r.Intn(len(edgeProbs())), bit: r.Intn(2)}
	}
}

func randomPart(r *rand.Rand) step {
	total := uint32(1 + r.Intn(1<<r.Intn(17)))
	start := uint32(r.Intn(int(total)))
	size := 1 + uint32(r.Intn(int(total-start)))
	switch r.Intn(4) {
	case 0:
		start, size = total-1, 1
	case 1:
		start, size = 0, 1
	}
	return step{kind: partStep, start: start, size: size, total: total}
}

func randomSteps(r *rand.Rand, n int) []step {
	l := make([]step, n)
	for i := range l {
		l[i] = randomStep(r)
	}
	return l
}

func encodeStep(e *Encoder, probs []uint16, s step) {
	switch s.kind {
	case bitStep:
		e.Bit(&probs[s.which], s.bit)
	case directStep:
		e.Direct(s.v, s.n)
	case partStep:
		e.Part(s.start, s.size, s.total)
	}
}

func encodeAll(l []step) string {
	e, probs := NewEncoder(), edgeProbs()
	for _, s := range l {
		encodeStep(e, probs, s)
	}
	return e.End()
}

func plainStep(e *plainEncoder, probs []uint16, s step) {
	switch s.kind {
	case bitStep:
		probs[s.which] = uint16(e.bit(int(probs[s.which]), s.bit))
	case directStep:
		for i := s.n - 1; i >= 0; i-- {
			e.direct(int(s.v >> i & 1))
		}
	case partStep:
		e.part(s.start, s.size, s.total)
	}
}
