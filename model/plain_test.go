package model

import (
	"fmt"
	"math/rand"
	"strconv"

	"cassone/packet"
	"cassone/rc"
	"cassone/state"
)

// plainBit is a bit and what its probability is called; a direct one has no name.
type plainBit struct {
	name string
	bit  int
}

// plainModel tells a packet's bits as the chapter says them, and keeps each probability by its name.
type plainModel struct {
	p      Params
	text   string
	reps   packet.Reps
	state  state.State
	chance map[string]*uint16
}

func newPlain(p Params) *plainModel {
	return &plainModel{p: p, reps: packet.First(), chance: map[string]*uint16{}}
}

// put a packet that fits.
func (m *plainModel) put(e *rc.Encoder, p packet.Packet) {
	m.putBits(e, m.bits(p))
	dist, n, next, ok := p.Fits(len(m.text), m.reps)
	if !ok {
		panic(fmt.Sprint("it doesn't fit: ", p))
	}
	if p.Kind == packet.Lit {
		m.text += string([]byte{p.Byte})
	} else {
		for range n {
			m.text += m.text[len(m.text)-dist : len(m.text)-dist+1]
		}
	}
	m.reps, m.state = next, m.state.Next(p.Kind)
}

func (m *plainModel) putEnd(e *rc.Encoder) {
	m.putBits(e, m.bits(packet.Packet{Kind: packet.Match, Len: 2, Dist: 1 << 32}))
}

func (m *plainModel) putBits(e *rc.Encoder, l []plainBit) {
	for _, b := range l {
		if b.name == "" {
			e.Direct(uint32(b.bit), 1)
			continue
		}
		if m.chance[b.name] == nil {
			p := uint16(rc.Start)
			m.chance[b.name] = &p
		}
		e.Bit(m.chance[b.name], b.bit)
	}
}

// bits of any packet, whether it fits or not.
func (m *plainModel) bits(p packet.Packet) []plainBit {
	here := len(m.text) % power(m.p.Pb)
	byState := fmt.Sprintf(" by state %d", m.state)
	byBoth := fmt.Sprintf("%s and P %d", byState, here)
	var l []plainBit
	tell := func(name string, bit int) { l = append(l, plainBit{name, bit}) }
	switch {
	case p.Kind == packet.Lit:
		tell("byte or other"+byBoth, 0)
		l = append(l, m.byteBits(p.Byte)...)
	case p.Kind == packet.Match:
		tell("byte or other"+byBoth, 1)
		tell("match or rep"+byState, 0)
		l = append(l, lengthBits("match", here, p.Len)...)
		l = append(l, distBits(p.Len, p.Dist)...)
	case p.Kind == packet.Short || p.Dist == 0:
		tell("byte or other"+byBoth, 1)
		tell("match or rep"+byState, 1)
		tell("first or other"+byState, 0)
		if p.Kind == packet.Short {
			tell("short or rep"+byBoth, 0)
			break
		}
		tell("short or rep"+byBoth, 1)
		l = append(l, lengthBits("rep", here, p.Len)...)
	default:
		tell("byte or other"+byBoth, 1)
		tell("match or rep"+byState, 1)
		tell("first or other"+byState, 1)
		if p.Dist == 1 {
			tell("second or other"+byState, 0)
		} else {
			tell("second or other"+byState, 1)
			tell("third or fourth"+byState, p.Dist-2)
		}
		l = append(l, lengthBits("rep", here, p.Len)...)
	}
	return l
}

func (m *plainModel) byteBits(v byte) []plainBit {
	last := 0
	if m.text != "" {
		last = int(m.text[len(m.text)-1])
	}
	name := fmt.Sprintf("byte at %d behind %d", len(m.text)%power(m.p.Lp), last/power(8-m.p.Lc))
	if m.state < 7 {
		return treeBits(name, int(v), 8)
	}
	other := m.text[len(m.text)-m.reps[0]]
	var l []plainBit
	at, like := 1, true
	for i := 7; i >= 0; i-- {
		b, c := int(v)/power(i)%2, int(other)/power(i)%2
		place := at
		if like {
			place = at + 256 + 256*c
		}
		l = append(l, plainBit{fmt.Sprint(name, " place ", place), b})
		at = 2*at + b
		like = like && b == c
	}
	return l
}

func lengthBits(of string, here, length int) []plainBit {
	n := length - 2
	byPlace := fmt.Sprint(" at ", here)
	if n < 8 {
		return append([]plainBit{{of + " length from 8", 0}}, treeBits(of+" length below 8"+byPlace, n, 3)...)
	}
	if n < 16 {
		return append([]plainBit{{of + " length from 8", 1}, {of + " length from 16", 0}}, treeBits(of+" length below 16"+byPlace, n-8, 3)...)
	}
	return append([]plainBit{{of + " length from 8", 1}, {of + " length from 16", 1}}, treeBits(of+" length", n-16, 8)...)
}

func distBits(length, dist int) []plainBit {
	d := uint32(int64(dist) - 1)
	slot := state.Slot(d)
	base, n := state.Base(slot)
	l := treeBits(fmt.Sprint("slot of class ", min(length-2, 3)), slot, 6)
	more := int(d - base)
	if slot < 14 {
		return append(l, treeBitsBack(fmt.Sprint("more of slot ", slot), more, n)...)
	}
	for i := n - 1; i >= 4; i-- {
		l = append(l, plainBit{"", more / power(i) % 2})
	}
	return append(l, treeBitsBack("lowest", more%16, 4)...)
}

// treeBits, the highest first: each by those ahead of it.
func treeBits(name string, v, bits int) []plainBit {
	var l []plainBit
	at := 1
	for i := bits - 1; i >= 0; i-- {
		b := v / power(i) % 2
		l = append(l, plainBit{fmt.Sprint(name, " place ", at), b})
		at = 2*at + b
	}
	return l
}

// treeBitsBack, the lowest first.
func treeBitsBack(name string, v, bits int) []plainBit {
	var l []plainBit
	ahead := ""
	for i := range bits {
		b := v / power(i) % 2
		l = append(l, plainBit{name + " behind " + ahead, b})
		ahead += strconv.Itoa(b)
	}
	return l
}

func power(n int) int {
	v := 1
	for range n {
		v *= 2
	}
	return v
}

// anyPacket that fits behind so many bytes, and tells at most so many.
func anyPacket(r *rand.Rand, have, room int, reps packet.Reps) packet.Packet {
	for {
		p := packet.Packet{Kind: 1 + r.Intn(4)}
		if p.Kind == packet.Lit {
			p.Byte = byte(r.Intn(256) >> r.Intn(8))
		}
		if p.Kind == packet.Match || p.Kind == packet.Rep {
			p.Len = anyLen(r)
			p.Dist = r.Intn(4)
		}
		if p.Kind == packet.Match {
			p.Dist = 1 + r.Intn(1<<20)>>r.Intn(20)
		}
		if _, n, _, ok := p.Fits(have, reps); ok && n <= room {
			return p
		}
	}
}

func anyLen(r *rand.Rand) int {
	switch r.Intn(4) {
	case 0:
		return 2 + r.Intn(8)
	case 1:
		return 10 + r.Intn(8)
	case 2:
		return 18 + r.Intn(256)
	}
	return 2 + r.Intn(3)
}
