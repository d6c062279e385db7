package aes

import "math/bits"

// inKey: how many words a key has.
const inKey = keySize / inWord

// setKeys of the rounds; the boxes are set.
func (c *Cipher) setKeys(key string) {
	for i := range inKey {
		c.keys[i] = wordOf(key[inWord*i], key[inWord*i+1], key[inWord*i+2], key[inWord*i+3])
	}
	step := byte(1)
	for from := range len(c.keys) - inKey {
		i := from + inKey
		t := c.keys[i-1]
		switch i % inKey {
		case 0:
			t = c.each(bits.RotateLeft32(t, 8)) ^ wordOf(step, 0, 0, 0)
			step = double(step)
		case inKey / 2:
			t = c.each(t)
		}
		c.keys[i] = c.keys[from] ^ t
	}
}

// each answers S of each byte of a word.
func (c *Cipher) each(w uint32) uint32 {
	return c.plain.word(func(n int) byte { return part(w, n) })
}
