package ppm

import (
	"math/rand"
	"slices"

	"cassone/api"
	"cassone/context"
	"cassone/freq"
	"cassone/rc"
)

// noSign is what no text has: of each table it is told that it is none of the table's signs.
const noSign = -1

// plainEncoder is the chapter, word by word, by parts of totals alone.
type plainEncoder struct {
	c *context.Contexts
	e *rc.Encoder
}

func newPlainEncoder(order, cells int) plainEncoder {
	return plainEncoder{context.New(order, cells), rc.NewEncoder()}
}

func (p plainEncoder) text(s string) {
	for _, sign := range []byte(s) {
		p.sign(int(sign))
	}
}

// sign by the tables of the last bytes; noSign ends with them.
func (p plainEncoder) sign(sign int) {
	not := map[byte]bool{}
	for k := p.c.Longest(); k >= 0; k-- {
		signs, counts := counting(p.c.Table(k), not)
		i := slices.IndexFunc(signs, func(s byte) bool { return int(s) == sign })
		start, size, total := partOf(counts, i)
		p.e.Part(start, size, total)
		if i >= 0 {
			p.c.Learn(byte(sign), k)
			return
		}
		for _, s := range signs {
			not[s] = true
		}
	}
	if sign != noSign {
		p.e.Part(uint32(slices.Index(others(not), byte(sign))), 1, uint32(256-len(not)))
		p.c.Learn(byte(sign), -1)
	}
}

func plainEncode(s string, order, cells int) string {
	p := newPlainEncoder(order, cells)
	p.text(s)
	return p.e.End()
}

// plainDecode is the chapter, word by word, by parts of totals alone.
func plainDecode(b string, order, cells, n int) (string, api.Errno) {
	if n < 0 || n > api.MaxTotal {
		return "", api.ErrParam
	}
	c, d := context.New(order, cells), rc.NewDecoder(b)
	s := ""
	for range n {
		sign, from := plainGet(c, d)
		if sign == noSign || d.Bad() {
			return "", api.ErrForm
		}
		c.Learn(byte(sign), from)
		s += string([]byte{byte(sign)})
	}
	if d.Bad() || !d.Done() {
		return "", api.ErrForm
	}
	return s, api.OK
}

func plainGet(c *context.Contexts, d *rc.Decoder) (sign, from int) {
	not := map[byte]bool{}
	for k := c.Longest(); k >= 0; k-- {
		signs, counts := counting(c.Table(k), not)
		_, _, total := partOf(counts, -1)
		where := d.Where(total)
		for i, s := range signs {
			if start, size, _ := partOf(counts, i); where >= start && where < start+size {
				d.Take(start, size)
				return int(s), k
			}
		}
		start, size, _ := partOf(counts, -1)
		d.Take(start, size)
		for _, s := range signs {
			not[s] = true
		}
	}
	if len(not) == 256 {
		return noSign, 0
	}
	where := d.Where(uint32(256 - len(not)))
	d.Take(where, 1)
	return int(others(not)[where]), -1
}

// counting: the signs of a table that aren't in a set, with their counts.
func counting(t *freq.Table, not map[byte]bool) (signs []byte, counts []uint32) {
	all, n := t.Signs()
	for i, s := range all {
		if !not[s] {
			signs, counts = append(signs, s), append(counts, uint32(n[i]))
		}
	}
	return signs, counts
}

// partOf the sign at i, of those with such counts; -1: of none of them.
func partOf(counts []uint32, i int) (start, size, total uint32) {
	sum := uint32(0)
	for at, n := range counts {
		if at == i {
			start, size = sum, n
		}
		sum += n
	}
	none := uint32(max(len(counts), 1))
	if i < 0 {
		start, size = sum, none
	}
	return start, size, sum + none
}

// others are the bytes that aren't in a set, in order.
func others(not map[byte]bool) []byte {
	var l []byte
	for i := range 256 {
		if !not[byte(i)] {
			l = append(l, byte(i))
		}
	}
	return l
}

// part (start, size) of a total.
type part struct{ start, size, total uint32 }

func encodeParts(l ...part) string {
	e := rc.NewEncoder()
	for _, p := range l {
		e.Part(p.start, p.size, p.total)
	}
	return e.End()
}

// allBytes, in order.
func allBytes() string {
	b := make([]byte, 256)
	for i := range b {
		b[i] = byte(i)
	}
	return string(b)
}

// randomText of so many bytes of so many kinds, parts of which are told again.
func randomText(r *rand.Rand, n, kinds int) string {
	var b []byte
	for len(b) < n {
		if m := len(b); m > 4 && r.Intn(3) == 0 {
			at := r.Intn(m)
			b = append(b, b[at:min(m, at+r.Intn(20))]...)
		}
		b = append(b, byte(r.Intn(kinds)*7))
	}
	return string(b[:n])
}
