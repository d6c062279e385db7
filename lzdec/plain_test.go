package lzdec

import (
	"math/rand"
	"strings"
	"testing"

	"cassone/api"
	"cassone/model"
	"cassone/packet"
	"cassone/rc"
)

func lit(b byte) packet.Packet {
	return packet.Packet{Kind: packet.Lit, Byte: b}
}

func match(dist, n int) packet.Packet {
	return packet.Packet{Kind: packet.Match, Dist: dist, Len: n}
}

func rep(i, n int) packet.Packet {
	return packet.Packet{Kind: packet.Rep, Dist: i, Len: n}
}

func short() packet.Packet { return packet.Packet{Kind: packet.Short} }

func lits(s string) []packet.Packet {
	var l []packet.Packet
	for _, b := range []byte(s) {
		l = append(l, lit(b))
	}
	return l
}

// goodParams are all that may be.
func goodParams() []model.Params {
	var l []model.Params
	for lc := range 5 {
		for lp := range 5 - lc {
			for pb := range 5 {
				l = append(l, model.Params{Lc: lc, Lp: lp, Pb: pb})
			}
		}
	}
	return l
}

// bytesOf packets that fit, with the end behind them or without it.
func bytesOf(t *testing.T, l []packet.Packet, p model.Params, end bool) string {
	t.Helper()
	m, e := model.New(p, api.MaxTotal), rc.NewEncoder()
	for i, x := range l {
		if !m.Put(e, x) {
			t.Fatalf("packet %d, %v: not put", i, x)
		}
	}
	if end {
		m.PutEnd(e)
	}
	return e.End()
}

// handBytes are of bits written as the probability's name, the bit; those without a name are direct. So there are bytes of packets that no model puts.
func handBytes(s string) string {
	e, chance := rc.NewEncoder(), map[string]*uint16{}
	for _, w := range strings.Fields(s) {
		name, bit, _ := strings.Cut(w, "=")
		if name == "" {
			e.Direct(uint32(bit[0]-'0'), 1)
			continue
		}
		if chance[name] == nil {
			p := uint16(rc.Start)
			chance[name] = &p
		}
		e.Bit(chance[name], int(bit[0]-'0'))
	}
	return e.End()
}

// plain is the chapter, word by word.
func plain(s string, p model.Params, n, most int) ([]packet.Packet, string, api.Errno) {
	switch {
	case !p.Good(), most < 0:
		return nil, "", api.ErrParam
	case n > most:
		return nil, "", api.ErrLimit
	case n < 0:
		return plainToEnd(s, p, most)
	}
	var l []packet.Packet
	d, m := rc.NewDecoder(s), model.New(p, n)
	for m.Len() < n {
		x, end, ok := m.Get(d)
		if !ok || end || d.Bad() {
			return nil, "", api.ErrForm
		}
		l = append(l, x)
	}
	if d.Bad() || !d.Done() {
		return nil, "", api.ErrForm
	}
	return l, m.Text(), api.OK
}

func plainToEnd(s string, p model.Params, most int) ([]packet.Packet, string, api.Errno) {
	var l []packet.Packet
	d, m := rc.NewDecoder(s), model.New(p, most)
	for {
		x, end, ok := m.Get(d)
		if !ok || d.Bad() || end && !d.Done() {
			return nil, "", api.ErrForm
		}
		if end {
			return l, m.Text(), api.OK
		}
		l = append(l, x)
	}
}

// anyPackets that fit, and tell so many bytes at most.
func anyPackets(r *rand.Rand, packets, most int) []packet.Packet {
	var l []packet.Packet
	have, reps := 0, packet.First()
	for len(l) < packets && have < most {
		x := packet.Packet{Kind: 1 + r.Intn(4)}
		switch x.Kind {
		case packet.Lit:
			x.Byte = byte(r.Intn(256) >> r.Intn(8))
		case packet.Match:
			x.Dist, x.Len = 1+r.Intn(1<<14)>>r.Intn(14), 2+r.Intn(272)>>r.Intn(8)
		case packet.Rep:
			x.Dist, x.Len = r.Intn(4), 2+r.Intn(272)>>r.Intn(8)
		}
		if _, n, next, ok := x.Fits(have, reps); ok && n <= most-have {
			l, have, reps = append(l, x), have+n, next
		}
	}
	return l
}
