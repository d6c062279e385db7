package method

import (
	"math/rand"
	"strings"

	"cassone/api"
	"cassone/greedy"
	"cassone/lazy"
	"cassone/lzenc"
	"cassone/model"
	"cassone/optimal"
	"cassone/packet"
	"cassone/ppm"
	"cassone/price"
)

// none is what a coder without a step tells.
const none = "\x00\x00\x00\x00\x00"

// plainPieces of a text, by Level.
func plainPieces(s string, o Options) []packet.Packet {
	return [][]packet.Packet{
		greedy.Parse(s, o.Window, o.Cut),
		lazy.Parse(s, o.Window, o.Cut),
		optimal.Parse(s, o.Window, price.Common()),
	}[o.Level]
}

// plainLz is what the chapter says of Lz, however many bytes it has.
func plainLz(s string, o Options) string {
	data, e := lzenc.Encode(plainPieces(s, o), o.Params, false)
	if e != api.OK {
		panic(e)
	}
	return bytesOf((o.Params.Pb*5+o.Params.Lp)*9+o.Params.Lc) + data
}

// plainPpm is what the chapter says of Ppm, however many bytes it has.
func plainPpm(s string, o Options) string {
	return bytesOf(o.Order, o.Cells%256, o.Cells/256%256, o.Cells/65536) + ppm.Encode(s, o.Order, o.Cells)
}

// plainCode is the chapter, word by word.
func plainCode(s string, method uint8, o Options) (string, bool) {
	data := s
	switch method {
	case 0:
		return s, true
	case 1:
		if o.Mask == 1 || o.Mask == 3 {
			data = plainLz(s, o)
		}
	case 2:
		if o.Mask == 2 || o.Mask == 3 {
			data = plainPpm(s, o)
		}
	}
	if len(data) < len(s) {
		return data, true
	}
	return "", false
}

// plainTry is the chapter, word by word.
func plainTry(s string, o Options) (uint8, string) {
	method, data := uint8(0), s
	for m := range uint8(3) {
		if d, ok := plainCode(s, m, o); ok && len(d) < len(data) {
			method, data = m, d
		}
	}
	return method, data
}

func bytesOf(l ...int) string {
	var b []byte
	for _, n := range l {
		b = append(b, byte(n))
	}
	return string(b)
}

// goodParams are all that may be.
func goodParams() []model.Params {
	var l []model.Params
	for pb := range 5 {
		for lp := range 5 {
			for lc := range 5 - lp {
				l = append(l, model.Params{Lc: lc, Lp: lp, Pb: pb})
			}
		}
	}
	return l
}

// anyOptions that may be.
func anyOptions(r *rand.Rand) Options {
	p := goodParams()
	return Options{
		Mask:   r.Intn(4),
		Level:  r.Intn(3),
		Window: 1 + r.Intn(api.MaxDist)>>r.Intn(21),
		Cut:    1 + r.Intn(1000)>>r.Intn(10),
		Order:  r.Intn(17),
		Cells:  min(64+r.Intn(api.MaxArena)>>r.Intn(21), api.MaxArena),
		Params: p[r.Intn(len(p))],
	}
}

// anyText of some kinds of bytes, parts of which are told again.
func anyText(r *rand.Rand, n int) string {
	kinds, again := 1+r.Intn(256)>>r.Intn(8), 1+r.Intn(40)
	var b strings.Builder
	for b.Len() < n {
		if m := b.Len(); m > 4 && r.Intn(again) == 0 {
			at := r.Intn(m)
			b.WriteString(b.String()[at:min(m, at+r.Intn(30))])
		}
		b.WriteByte(byte(r.Intn(kinds)))
	}
	return b.String()[:n]
}
