package aes

const (
	inWord  = 4 // bytes of a word
	inBlock = blockSize / inWord
)

// words of a block, the first byte of each the highest.
type words [inBlock]uint32

func wordOf(a, b, c, d byte) uint32 {
	return uint32(a)<<24 | uint32(b)<<16 | uint32(c)<<8 | uint32(d)
}

// part answers the n-th byte of a word.
func part(w uint32, n int) byte { return byte(w >> (24 - 8*n)) }

func wordsOf(b [16]byte) words {
	var w words
	for i := range w {
		w[i] = wordOf(b[inWord*i], b[inWord*i+1], b[inWord*i+2], b[inWord*i+3])
	}
	return w
}

func (w words) bytes() [16]byte {
	var b [16]byte
	for i := range b {
		b[i] = part(w[i/inWord], i%inWord)
	}
	return b
}
