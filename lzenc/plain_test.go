package lzenc

import (
	"math/rand"

	"cassone/api"
	"cassone/model"
	"cassone/packet"
	"cassone/rc"
)

func lit(b byte) packet.Packet {
	return packet.Packet{Kind: packet.Lit, Byte: b}
}

func match(dist, n int) packet.Packet {
	return packet.Packet{Kind: packet.Match, Dist: dist, Len: n}
}

func rep(i, n int) packet.Packet {
	return packet.Packet{Kind: packet.Rep, Dist: i, Len: n}
}

func short() packet.Packet { return packet.Packet{Kind: packet.Short} }

func lits(s string) []packet.Packet {
	var l []packet.Packet
	for _, b := range []byte(s) {
		l = append(l, lit(b))
	}
	return l
}

// goodParams are all that may be.
func goodParams() []model.Params {
	var l []model.Params
	for lc := range 5 {
		for lp := range 5 - lc {
			for pb := range 5 {
				l = append(l, model.Params{Lc: lc, Lp: lp, Pb: pb})
			}
		}
	}
	return l
}

// wrongParams may not be.
func wrongParams() []model.Params {
	const most, least = 1<<63 - 1, -1 << 63
	return []model.Params{
		{Lc: -1}, {Lp: -1}, {Pb: -1}, {Lc: 5}, {Lp: 5}, {Pb: 5}, {Lc: 3, Lp: 2}, {Lc: 5, Lp: -1}, {Lc: most, Lp: most}, {Lc: least}, {Pb: most},
	}
}

// plain is the chapter, word by word.
func plain(l []packet.Packet, p model.Params, end bool) (string, api.Errno) {
	if !p.Good() {
		return "", api.ErrParam
	}
	if _, e := packet.Apply(l, api.MaxTotal); e != api.OK {
		return "", api.ErrForm
	}
	m, e := model.New(p, api.MaxTotal), rc.NewEncoder()
	for _, x := range l {
		m.Put(e, x)
	}
	if end {
		m.PutEnd(e)
	}
	return e.End(), api.OK
}

// anyPackets that fit, and tell so many bytes at most.
func anyPackets(r *rand.Rand, packets, most int) []packet.Packet {
	var l []packet.Packet
	have, reps := 0, packet.First()
	for len(l) < packets && have < most {
		x := anyPacket(r)
		if _, n, next, ok := x.Fits(have, reps); ok && n <= most-have {
			l, have, reps = append(l, x), have+n, next
		}
	}
	return l
}

// anyPacket, whether it fits or not.
func anyPacket(r *rand.Rand) packet.Packet {
	x := packet.Packet{Kind: 1 + r.Intn(4)}
	switch x.Kind {
	case packet.Lit:
		x.Byte = byte(r.Intn(256) >> r.Intn(8))
	case packet.Match:
		x.Dist, x.Len = 1+r.Intn(1<<14)>>r.Intn(14), 2+r.Intn(272)>>r.Intn(8)
	case packet.Rep:
		x.Dist, x.Len = r.Intn(4), 2+r.Intn(272)>>r.Intn(8)
	}
	return x
}
