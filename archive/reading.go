package archive

import (
	"strings"

	"cassone/api"
	"cassone/hmac"
	"cassone/index"
	"cassone/keys"
	"cassone/solid"
)

// reading of an archive, within limits; it counts its calls.
type reading struct {
	Limits
	Calls
}

// entries that an archive has.
func (r *reading) entries(b, password string) ([]index.Entry, api.Errno) {
	h, e := r.head(b)
	if e != api.OK {
		return nil, e
	}
	sealed, seal := b[:len(b)-sealSize], b[len(b)-sealSize:]
	k := r.keys(h, password)
	if !r.isRight(seal, sealed, k) {
		return nil, api.ErrAuth
	}
	return r.open(r.decipher(sealed[headSize:], h, k))
}

// head of an archive, where there may be one.
func (r *reading) head(b string) (head, api.Errno) {
	if len(b) < headSize+sealSize {
		return head{}, api.ErrTrunc
	}
	if !strings.HasPrefix(b, magic) {
		return head{}, api.ErrMagic
	}
	h := getHead(b)
	if h.power > min(r.Power, api.MaxRounds) {
		return head{}, api.ErrLimit
	}
	return h, api.OK
}

func (r *reading) keys(h head, password string) keys.Keys {
	r.Keys++
	return h.derive(password)
}

// isRight: is a seal that of what is sealed?
func (r *reading) isRight(seal, sealed string, k keys.Keys) bool {
	r.Sums++
	return hmac.Same(seal, hmac.Sum(k.Sum, sealed))
}

func (r *reading) decipher(body string, h head, k keys.Keys) string {
	r.Ciphers++
	return h.turn(body, k)
}

// open a body that is deciphered.
func (r *reading) open(body string) ([]index.Entry, api.Errno) {
	items, blocks, e := getBody(body)
	if e != api.OK {
		return nil, e
	}
	n := index.Total(items)
	if n > r.Bytes {
		return nil, api.ErrLimit
	}
	s, e := r.read(blocks, n)
	if e != api.OK {
		return nil, e
	}
	// There are as many bytes as the items have.
	l, _ := index.Part(items, s)
	return l, api.OK
}

// read blocks of so many bytes.
func (r *reading) read(blocks string, n int) (string, api.Errno) {
	r.Blocks++
	s, e := solid.Read(blocks, n)
	if e == api.ErrTrunc {
		// Bytes that lack under a seal were never there: whoever sealed them made no archive.
		return "", api.ErrForm
	}
	return s, e
}
