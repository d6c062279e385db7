// Package piece has the pieces of which layers 13, 14 and 16 make a text, and tells, place by place, the longest one that stood before.
package piece

import (
	"cassone/api"
	"cassone/chain"
	"cassone/packet"
)

// Piece of a text: so many bytes, that stood so far back already. The zero Piece is a byte alone.
type Piece chain.Found

// Size: how many places it takes.
func (p Piece) Size() int {
	if p == (Piece{}) {
		return 1
	}
	return p.Len
}

// Packet of it, where it begins with that byte.
func (p Piece) Packet(first byte) packet.Packet {
	if p == (Piece{}) {
		return packet.Packet{Kind: packet.Lit, Byte: first}
	}
	return packet.Packet{Kind: packet.Match, Dist: p.Dist, Len: p.Len}
}

// Finder of the longest match of each place.
type Finder struct{ matches *chain.Finder }

// New finder: how far back it looks, at how many places.
func New(s string, window, cut int) *Finder {
	// No packet copies from farther than MaxDist. As the nearest places are looked at first, what is told of these is the same without the farther ones.
	return &Finder{chain.New(s, min(window, api.MaxDist), cut)}
}

// Next place's longest match; a byte alone, where it has none.
func (f *Finder) Next() Piece {
	l := f.matches.Next()
	if len(l) == 0 {
		return Piece{}
	}
	return Piece(l[len(l)-1])
}
