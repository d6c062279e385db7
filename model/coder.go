package model

import (
	"cassone/probs"
	"cassone/rc"
)

// coder is where a packet's bits go to, or come from. It is handed what is to be put, and answers what stands there now: that, or what was got instead. So a packet's way through its bits is the same for both, and what was put is got again.
type coder interface {
	choice(p *uint16, bit int) int
	direct(v uint32, n int) uint32
	number(t probs.Tree, v int) int
	back(t probs.Tree, v int) int
	like(t probs.Tree, v, other byte) byte
}

// encoding puts what it is handed.
type encoding struct{ *rc.Encoder }

func (e encoding) choice(p *uint16, bit int) int {
	e.Bit(p, bit)
	return bit
}

func (e encoding) direct(v uint32, n int) uint32 {
	e.Direct(v, n)
	return v
}

func (e encoding) number(t probs.Tree, v int) int {
	t.Put(e.Encoder, v)
	return v
}

func (e encoding) back(t probs.Tree, v int) int {
	t.PutBack(e.Encoder, v)
	return v
}

func (e encoding) like(t probs.Tree, v, other byte) byte {
	probs.PutLike(e.Encoder, t, v, other)
	return v
}

// decoding gets; what it is handed is nothing to it.
type decoding struct{ *rc.Decoder }

func (d decoding) choice(p *uint16, _ int) int { return d.Bit(p) }

func (d decoding) direct(_ uint32, n int) uint32 { return d.Direct(n) }

func (d decoding) number(t probs.Tree, _ int) int { return t.Get(d.Decoder) }

func (d decoding) back(t probs.Tree, _ int) int { return t.GetBack(d.Decoder) }

func (d decoding) like(t probs.Tree, _, other byte) byte {
	return probs.GetLike(d.Decoder, t, other)
}
