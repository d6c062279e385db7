package archive

import (
	"cassone/aes"
	"cassone/api"
	"cassone/keys"
)

const (
	magic    = "CSNE\x01"
	ivSize   = 16
	sealSize = 32
)

// Where in an archive each part of its head begins, and how many bytes the head has.
const (
	powerAt  = len(magic)
	saltAt   = powerAt + 1
	ivAt     = saltAt + api.SaltSize
	headSize = ivAt + ivSize
)

// head of an archive: what its keys and its body hang on, beside the password.
type head struct {
	power int
	salt  [api.SaltSize]byte
	iv    [ivSize]byte
}

func (h head) put() string {
	return magic + string([]byte{byte(h.power)}) + string(h.salt[:]) + string(h.iv[:])
}

// getHead from as many bytes as it has; its magic isn't looked at.
func getHead(b string) head {
	h := head{power: int(b[powerAt])}
	copy(h.salt[:], b[saltAt:ivAt])
	copy(h.iv[:], b[ivAt:headSize])
	return h
}

// derive the keys of a password.
func (h head) derive(password string) keys.Keys {
	return keys.Derive(password, string(h.salt[:]), h.power)
}

// turn a body, so that it is enciphered, or deciphered again.
func (h head) turn(body string, k keys.Keys) string {
	return aes.New(k.Cipher).Ctr(h.iv, body)
}
