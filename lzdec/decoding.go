package lzdec

import (
	"cassone/model"
	"cassone/packet"
	"cassone/rc"
)

// bits are where a decoding's packets come from.
type bits interface {
	// packet that comes next, by a model, which takes it; answered as by the model's Get.
	packet(m *model.Model) (p packet.Packet, end, ok bool)
	// Done: were all of them got?
	Done() bool
	// Bad: were there too few, or none that may be?
	Bad() bool
}

// coded bits, in a decoder's bytes.
type coded struct{ *rc.Decoder }

func (c coded) packet(m *model.Model) (p packet.Packet, end, ok bool) {
	return m.Get(c.Decoder)
}

// decoding of a text: its model has what was decoded so far.
type decoding struct {
	*model.Model
	bits bits
	n    int // how many bytes the text has; below 0: as many as stand ahead of the end
}

func newDecoding(b bits, p model.Params, n, most int) decoding {
	if n >= 0 {
		most = n
	}
	return decoding{model.New(p, most), b, n}
}

// run through all packets, each of which is told; false, where the bits aren't those of a whole text.
func (d decoding) run(tell func(packet.Packet)) bool {
	// Bad bits go on as zeros for ever: no further packet is asked of them.
	for d.lacks() && !d.bits.Bad() {
		p, end, ok := d.bits.packet(d.Model)
		if !ok {
			return false
		}
		if end {
			return d.upToEnd() && d.isOver()
		}
		tell(p)
	}
	return d.isOver()
}

// lacks says whether a packet, or the end, must follow.
func (d decoding) lacks() bool { return d.upToEnd() || d.Len() < d.n }

func (d decoding) upToEnd() bool { return d.n < 0 }

// isOver says whether nothing follows, and nothing lacked. Bad bits may be Done, too, where the last ones that lack are 0.
func (d decoding) isOver() bool { return d.bits.Done() && !d.bits.Bad() }
