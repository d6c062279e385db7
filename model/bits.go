package model

import (
	"cassone/api"
	"cassone/packet"
	"cassone/state"
)

// code a packet: its bits go through a coder. What the packet is, is asked of the bits alone: where they are got, the packet that is handed in is none.
func (m *Model) code(c coder, p packet.Packet) packet.Packet {
	l, here := m.likely, lowest(m.text.Len(), m.params.Pb)
	if c.choice(&l.other[m.state][here], bit(p.Kind != packet.Lit)) == 0 {
		return packet.Packet{Kind: packet.Lit, Byte: m.codeByte(c, p.Byte)}
	}
	if c.choice(&l.again[m.state], bit(p.Kind != packet.Match)) == 0 {
		n := l.matches.code(c, here, p.Len)
		return packet.Packet{Kind: packet.Match, Len: n, Dist: l.distances.code(c, n, p.Dist)}
	}
	i := m.codeRep(c, p.Dist)
	// A short one's bits begin as those of a rep of the first of the last distances.
	if i == 0 && c.choice(&l.more[m.state][here], bit(p.Kind == packet.Rep)) == 0 {
		return packet.Packet{Kind: packet.Short}
	}
	return packet.Packet{Kind: packet.Rep, Dist: i, Len: l.reps.code(c, here, p.Len)}
}

// codeByte: beside the one that the last copy would go on with, where that wasn't a byte ago.
func (m *Model) codeByte(c coder, b byte) byte {
	last, _ := m.text.At(1)
	lc, lp := m.params.Lc, m.params.Lp
	t := m.likely.bytes[lowest(m.text.Len(), lp)<<lc+int(last>>(8-lc))]
	if m.state.Literal() {
		return byte(c.number(t[:plainPlaces], int(b)))
	}
	other, _ := m.text.At(m.reps[0])
	return c.like(t, b, other)
}

// codeRep: which of the last distances.
func (m *Model) codeRep(c coder, i int) int {
	l := m.likely
	if c.choice(&l.second[m.state], bit(i > 0)) == 0 {
		return 0
	}
	if c.choice(&l.third[m.state], bit(i > 1)) == 0 {
		return 1
	}
	return 2 + c.choice(&l.fourth[m.state], bit(i > 2))
}

func (l *lengths) code(c coder, here, n int) int {
	n -= api.MinLen
	if c.choice(&l.notNear, bit(n >= middleLength)) == 0 {
		return api.MinLen + c.number(l.near[here], n)
	}
	if c.choice(&l.far, bit(n >= farLength)) == 0 {
		return api.MinLen + middleLength + c.number(l.middle[here], n-middleLength)
	}
	return api.MinLen + farLength + c.number(l.farther, n-farLength)
}

// code a distance of a match of n bytes, modulo 2^32.
func (d *distances) code(c coder, n, dist int) int {
	less := uint32(dist - 1)
	slot := c.number(d.slots[state.Class(n)], state.Slot(less))
	base, more := state.Base(slot)
	if slot < farSlot {
		less = base + uint32(c.back(d.near[slot], int(less-base)))
	} else {
		less = base + d.codeFar(c, less-base, more)
	}
	return int(less + 1)
}

// codeFar: a number of so many bits; but for the last ones each is as likely as not.
func (d *distances) codeFar(c coder, v uint32, n int) uint32 {
	high := c.direct(v>>lastBits, n-lastBits)
	low := c.back(d.last, lowest(int(v), lastBits))
	return high<<lastBits + uint32(low)
}

// lowest bits of a number, so many.
func lowest(v, n int) int { return v & (1<<n - 1) }

// bit by which it is told whether something holds.
func bit(holds bool) int {
	if holds {
		return 1
	}
	return 0
}
