package hmac

import "crypto/sha256"

// plainLayer23 is the library's, which the program doesn't use.
func plainLayer23(s string) string {
	sum := sha256.Sum256([]byte(s))
	return string(sum[:])
}

// plainSum is the chapter, word by word.
func plainSum(key, s string) string {
	k := key
	if len(key) > 64 {
		k = plainLayer23(key)
	}
	for len(k) < 64 {
		k += "\x00"
	}
	outside, inside := "", ""
	for i := range len(k) {
		outside += string([]byte{k[i] ^ 0x5C})
		inside += string([]byte{k[i] ^ 0x36})
	}
	return plainLayer23(outside + plainLayer23(inside+s))
}
