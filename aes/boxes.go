package aes

import "math/bits"

// boxes: for each place among four bytes, what S of a byte there adds to the word that they make. What words are mixed to is a sum of each byte's own part, too, so that all of a round but its key is looked up.
type boxes [inWord][256]uint32

// setBoxes of a cipher: though they are the same for all keys, they are too many for a table at package level.
func (c *Cipher) setBoxes() {
	for x, y := range inverses() {
		s := bent(y)
		c.plain.set(x, wordOf(s, 0, 0, 0))
		c.mixed.set(x, wordOf(double(s), s, s, double(s)^s))
	}
}

// set what S of a byte adds: as the first one of four, and turned by a byte for each place further on.
func (b *boxes) set(x int, first uint32) {
	for n := range b {
		b[n][x] = bits.RotateLeft32(first, -8*n)
	}
}

// word that four bytes make: at tells the n-th one.
func (b *boxes) word(at func(n int) byte) uint32 {
	w := uint32(0)
	for n := range b {
		w ^= b[n][at(n)]
	}
	return w
}

// next answers the words that a block's make: the n-th byte of each comes from n words further on, in a circle.
func (b *boxes) next(w words) words {
	var behind words
	for i := range behind {
		behind[i] = b.word(func(n int) byte { return part(w[(i+n)%inBlock], n) })
	}
	return behind
}

// inverses answers for each byte the one whose product with it is 1, and 0 for 0.
func inverses() [256]byte {
	// The powers of 3 are all bytes but 0, and the 255th one is 1 again: a power's inverse is the one that is wanting to it.
	var powers [255]byte
	p := byte(1)
	for i := range powers {
		powers[i] = p
		p ^= double(p)
	}
	var l [256]byte
	for i, p := range powers {
		l[p] = powers[(len(powers)-i)%len(powers)]
	}
	return l
}

// double of a byte, as a polynomial.
func double(x byte) byte {
	if x >= 0x80 {
		return x<<1 ^ 0x1B
	}
	return x << 1
}

// bent answers S of the byte whose inverse is y.
func bent(y byte) byte {
	s := y ^ 0x63
	for n := range 4 {
		s ^= bits.RotateLeft8(y, n+1)
	}
	return s
}
