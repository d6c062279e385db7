package sha

import "math/bits"

// held: how many words a chunk has, and all those that follow are told by: no more are kept.
const held = 16

// words that are held, and behind them as many that follow.
type words [2 * held]uint32

// wordsOf a chunk, the highest byte of each first.
func wordsOf(s string) (w words) {
	for i := range held {
		b := s[4*i : 4*i+4]
		w[i] = uint32(b[0])<<24 | uint32(b[1])<<16 | uint32(b[2])<<8 | uint32(b[3])
	}
	return w
}

// following answers the word that stands as many places behind the word i as are held.
func (w *words) following(i int) uint32 {
	return w[i] + moved(w[i+1], 7, 18, 3) + w[i+9] + moved(w[i+14], 17, 19, 10)
}

// moved answers a word turned by two numbers, and moved by the third.
func moved(x uint32, l, m, n int) uint32 { return right(x, l) ^ right(x, m) ^ x>>n }

// turned answers a word turned by each of three numbers.
func turned(x uint32, l, m, n int) uint32 { return right(x, l) ^ right(x, m) ^ right(x, n) }

// right turns a word to the right.
func right(x uint32, n int) uint32 { return bits.RotateLeft32(x, -n) }
