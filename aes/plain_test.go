package aes

import (
	"math/big"
	"slices"
)

// plainTwice and those below are the chapter, word by word.
func plainTwice(x int) int {
	if x&0x80 != 0 {
		return (x<<1)&0xFF ^ 0x1B
	}
	return x << 1
}

func plainProduct(x, y int) int {
	p := 0
	for bit := range 8 {
		if y>>bit&1 == 1 {
			p ^= x
		}
		x = plainTwice(x)
	}
	return p
}

func plainCircle(x, n int) int { return (x<<n | x>>(8-n)) & 0xFF }

func plainS(x int) int {
	y := 0
	for z := range 256 {
		if plainProduct(x, z) == 1 {
			y = z
		}
	}
	return y ^ plainCircle(y, 1) ^ plainCircle(y, 2) ^ plainCircle(y, 3) ^ plainCircle(y, 4) ^ 0x63
}

func plainBox() []int {
	var l []int
	for x := range 256 {
		l = append(l, plainS(x))
	}
	return l
}

// plainKeys answers W0 to W59, four bytes each.
func plainKeys(key string, s []int) [][]int {
	var w [][]int
	for i := range 8 {
		w = append(w, []int{int(key[4*i]), int(key[4*i+1]), int(key[4*i+2]), int(key[4*i+3])})
	}
	for i := 8; i < 60; i++ {
		t := slices.Clone(w[i-1])
		if i%8 == 0 {
			t = []int{s[t[1]], s[t[2]], s[t[3]], s[t[0]]}
			first := 1
			for range i/8 - 1 {
				first = plainTwice(first)
			}
			t[0] ^= first
		}
		if i%8 == 4 {
			t = []int{s[t[0]], s[t[1]], s[t[2]], s[t[3]]}
		}
		for n := range t {
			t[n] ^= w[i-8][n]
		}
		w = append(w, t)
	}
	return w
}

func plainBlock(key string, in [16]byte, s []int) [16]byte {
	w := plainKeys(key, s)
	b := make([]int, 16)
	turn := func(r int) {
		for i := range b {
			b[i] ^= w[4*r+i/4][i%4]
		}
	}
	for i := range b {
		b[i] = int(in[i])
	}
	turn(0)
	for r := 1; r <= 14; r++ {
		from := slices.Clone(b)
		for i := range b {
			b[i] = s[from[(i+4*(i%4))%16]]
		}
		for i := 0; r != 14 && i < 16; i += 4 {
			a, b1, c, d := b[i], b[i+1], b[i+2], b[i+3]
			b[i] = plainProduct(a, 2) ^ plainProduct(b1, 3) ^ c ^ d
			b[i+1] = a ^ plainProduct(b1, 2) ^ plainProduct(c, 3) ^ d
			b[i+2] = a ^ b1 ^ plainProduct(c, 2) ^ plainProduct(d, 3)
			b[i+3] = plainProduct(a, 3) ^ b1 ^ c ^ plainProduct(d, 2)
		}
		turn(r)
	}
	var out [16]byte
	for i := range b {
		out[i] = byte(b[i])
	}
	return out
}

func plainCtr(key string, iv [16]byte, text string, s []int) string {
	var out []byte
	for i := range len(text) {
		n := new(big.Int).SetBytes(iv[:])
		n.Add(n, big.NewInt(int64(i/16)))
		n.Mod(n, new(big.Int).Lsh(big.NewInt(1), 128))
		var count [16]byte
		n.FillBytes(count[:])
		by := plainBlock(key, count, s)
		out = append(out, text[i]^by[i%16])
	}
	return string(out)
}
