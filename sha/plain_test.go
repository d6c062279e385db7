package sha

import (
	"encoding/binary"
	"math/big"
)

// primes answers the first n of them.
func primes(n int) []int64 {
	var l []int64
	for p := int64(2); len(l) < n; p++ {
		if new(big.Int).SetInt64(p).ProbablyPrime(0) {
			l = append(l, p)
		}
	}
	return l
}

// behindPoint answers the first 32 bits behind the point of p's root of that power: the greatest number whose power isn't above p, moved up by so many bits.
func behindPoint(p int64, power int) uint32 {
	moved := new(big.Int).Lsh(big.NewInt(p), uint(32*power))
	root := new(big.Int)
	for bit := 50; bit >= 0; bit-- {
		root.SetBit(root, bit, 1)
		if new(big.Int).Exp(root, big.NewInt(int64(power)), nil).Cmp(moved) > 0 {
			root.SetBit(root, bit, 0)
		}
	}
	return uint32(root.Uint64())
}

// plainRoots answers as many constants, of the first primes' roots of a power.
func plainRoots(n, power int) []uint32 {
	var l []uint32
	for _, p := range primes(n) {
		l = append(l, behindPoint(p, power))
	}
	return l
}

func plainR(x uint32, n int) uint32 { return x>>n | x<<(32-n) }

// plainLonger is the chapter's second part, word by word.
func plainLonger(s string) []byte {
	b := append([]byte(s), 0x80)
	for (len(b)+8)%64 != 0 {
		b = append(b, 0)
	}
	return binary.BigEndian.AppendUint64(b, 8*uint64(len(s)))
}

// plainSum is the chapter, word by word; k and h are its constants.
func plainSum(s string, k, h []uint32) string {
	h = append([]uint32(nil), h...)
	b := plainLonger(s)
	for at := 0; at < len(b); at += 64 {
		plainChunk(b[at:at+64], k, h)
	}
	var sum []byte
	for _, x := range h {
		sum = binary.BigEndian.AppendUint32(sum, x)
	}
	return string(sum)
}

func plainChunk(b []byte, k, hs []uint32) {
	var w [64]uint32
	for t := range w {
		if t < 16 {
			w[t] = binary.BigEndian.Uint32(b[4*t:])
			continue
		}
		x, y := w[t-15], w[t-2]
		w[t] = w[t-16] + (plainR(x, 7) ^ plainR(x, 18) ^ (x >> 3)) + w[t-7] + (plainR(y, 17) ^ plainR(y, 19) ^ (y >> 10))
	}
	a, b1, c, d, e, f, g, h := hs[0], hs[1], hs[2], hs[3], hs[4], hs[5], hs[6], hs[7]
	for t := range w {
		tt := h + (plainR(e, 6) ^ plainR(e, 11) ^ plainR(e, 25)) + ((e & f) ^ (^e & g)) + k[t] + w[t]
		u := (plainR(a, 2) ^ plainR(a, 13) ^ plainR(a, 22)) + ((a & b1) ^ (a & c) ^ (b1 & c))
		h, g, f, e, d, c, b1, a = g, f, e, d+tt, c, b1, a, tt+u
	}
	for i, x := range []uint32{a, b1, c, d, e, f, g, h} {
		hs[i] += x
	}
}
