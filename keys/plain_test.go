package keys

import (
	"crypto/hmac"
	"crypto/sha256"
)

// plainSum is layer 23's, of the library, which the program doesn't use.
func plainSum(s string) string {
	sum := sha256.Sum256([]byte(s))
	return string(sum[:])
}

// plainKeyed is layer 24's, of the library.
func plainKeyed(key, s string) string {
	h := hmac.New(sha256.New, []byte(key))
	h.Write([]byte(s))
	return string(h.Sum(nil))
}

// plainDerive is the chapter, word by word.
func plainDerive(password, salt string, power int) Keys {
	if power < 0 {
		power = 0
	}
	if power > 20 {
		power = 20
	}
	times := 1
	for range power {
		times *= 2
	}
	h := plainSum(salt + password)
	for i := 0; i < times; i++ {
		eight, n := "", i
		for range 8 {
			eight += string([]byte{byte(n % 256)})
			n /= 256
		}
		h = plainSum(h + salt + password + eight)
	}
	return Keys{Cipher: plainKeyed(h, "cipher"), Sum: plainKeyed(h, "sum")}
}
