package method

import (
	"cassone/greedy"
	"cassone/lazy"
	"cassone/lzenc"
	"cassone/optimal"
	"cassone/packet"
	"cassone/ppm"
	"cassone/price"
)

// Code a text by a method; false: it isn't tried, or has too many bytes.
func Code(s string, method uint8, o Options) (string, bool) {
	switch {
	case method == Stored:
		return s, true
	case method == Lz && o.Mask&lzMask != 0:
		return codeLz(s, o)
	case method == Ppm && o.Mask&ppmMask != 0:
		return codePpm(s, o)
	}
	return "", false
}

func codeLz(s string, o Options) (string, bool) {
	head := putParams(o.Params)
	data, ok := lzenc.Upto(pieces(s, o), o.Params, len(s)-len(head))
	if !ok {
		return "", false
	}
	return head + data, true
}

func codePpm(s string, o Options) (string, bool) {
	data := putContexts(o.Order, o.Cells) + ppm.Encode(s, o.Order, o.Cells)
	if len(data) >= len(s) {
		return "", false
	}
	return data, true
}

// pieces of a text, by Level.
func pieces(s string, o Options) []packet.Packet {
	switch o.Level {
	case Greedy:
		return greedy.Parse(s, o.Window, o.Cut)
	case Lazy:
		return lazy.Parse(s, o.Window, o.Cut)
	}
	return optimal.Parse(s, o.Window, price.Common())
}
