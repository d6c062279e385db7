package archive

import (
	"crypto/aes"
	"crypto/cipher"
	"crypto/hmac"
	"crypto/sha256"
	"encoding/binary"
	"hash/crc32"
	"math/rand"
	"strings"

	"cassone/api"
	"cassone/index"
	"cassone/method"
	"cassone/model"
	"cassone/solid"
)

// plainSum, plainKeyed and plainTurned are layers 23's, 24's and 25's, of the library, which the program doesn't use.
func plainSum(s string) string {
	sum := sha256.Sum256([]byte(s))
	return string(sum[:])
}

func plainKeyed(key, s string) string {
	h := hmac.New(sha256.New, []byte(key))
	h.Write([]byte(s))
	return string(h.Sum(nil))
}

func plainTurned(key string, iv [16]byte, s string) string {
	c, err := aes.NewCipher([]byte(key))
	if err != nil {
		panic(err)
	}
	out := make([]byte, len(s))
	cipher.NewCTR(c, iv[:]).XORKeyStream(out, []byte(s))
	return string(out)
}

// plainKeys is layer 26, word by word.
func plainKeys(password string, salt [16]byte, power int) (cipher, sum string) {
	both := string(salt[:]) + password
	h := plainSum(both)
	for i := range uint64(1) << power {
		h = plainSum(h + both + string(binary.LittleEndian.AppendUint64(nil, i)))
	}
	return plainKeyed(h, "cipher"), plainKeyed(h, "sum")
}

// parts of an archive, that may be wrong; its seal is right.
type parts struct {
	front    string // what stands ahead of Power
	power    int
	salt, iv [16]byte
	password string
	body     string // not enciphered
}

func (p parts) made() string {
	cipher, sum := plainKeys(p.password, p.salt, p.power)
	b := p.front + string([]byte{byte(p.power)}) + string(p.salt[:]) + string(p.iv[:]) + plainTurned(cipher, p.iv, p.body)
	return b + plainKeyed(sum, b)
}

// sealed body, the other parts of which are some that may be.
func sealed(body, password string) string {
	return parts{front: "CSNE\x01", power: 1, salt: [16]byte{3, 1, 4}, iv: [16]byte{1, 5: 9}, password: password, body: body}.made()
}

// fourBytes of a number, the lowest first.
func fourBytes(n int) string {
	return string(binary.LittleEndian.AppendUint32(nil, uint32(n)))
}

// bodyWith an index and blocks, that may be wrong.
func bodyWith(index, blocks string) string { return fourBytes(len(index)) + index + blocks }

// indexWith items of these sizes, named a, b and so on.
func indexWith(sizes ...int) string {
	b := fourBytes(len(sizes))
	for i, n := range sizes {
		b += "\x01\x00" + string([]byte{byte('a' + i)}) + fourBytes(n)
	}
	return b
}

// storedBlock of a text, as layer 21 says.
func storedBlock(s string) string {
	return "\x00" + fourBytes(len(s)) + fourBytes(len(s)) + fourBytes(int(crc32.ChecksumIEEE([]byte(s)))) + s
}

// plainPack is the chapter, word by word.
func plainPack(l []index.Entry, password string, o Options) (string, api.Errno) {
	if o.Power < 0 || o.Power > 20 {
		return "", api.ErrParam
	}
	items, e := index.Encode(l)
	if e != api.OK {
		return "", e
	}
	blocks, e := solid.Pack(index.Text(l), o.Method, o.Block)
	if e != api.OK {
		return "", e
	}
	return parts{"CSNE\x01", o.Power, o.Salt, o.IV, password, bodyWith(items, blocks)}.made(), api.OK
}

// plainUnpack is the chapter, word by word.
func plainUnpack(b, password string, m Limits) ([]index.Entry, Calls, api.Errno) {
	if len(b) < 70 {
		return nil, Calls{}, api.ErrTrunc
	}
	if b[:4] != "CSNE" || b[4] != 1 {
		return nil, Calls{}, api.ErrMagic
	}
	power := int(b[5])
	if power > m.Power || power > 20 {
		return nil, Calls{}, api.ErrLimit
	}
	salt, iv := [16]byte([]byte(b[6:22])), [16]byte([]byte(b[22:38]))
	cipher, sum := plainKeys(password, salt, power)
	if plainKeyed(sum, b[:len(b)-32]) != b[len(b)-32:] {
		return nil, Calls{Keys: 1, Sums: 1}, api.ErrAuth
	}
	body := plainTurned(cipher, iv, b[38:len(b)-32])
	seen := Calls{Keys: 1, Sums: 1, Ciphers: 1}
	if len(body) < 4 {
		return nil, seen, api.ErrForm
	}
	says := 4 + int64(binary.LittleEndian.Uint32([]byte(body)))
	if int64(len(body)) < says {
		return nil, seen, api.ErrForm
	}
	items, e := index.Decode(body[4:says])
	if e != api.OK {
		return nil, seen, api.ErrForm
	}
	if index.Total(items) > m.Bytes {
		return nil, seen, api.ErrLimit
	}
	s, e := solid.Read(body[says:], index.Total(items))
	seen.Blocks = 1
	if e == api.ErrTrunc {
		return nil, seen, api.ErrForm
	}
	if e != api.OK {
		return nil, seen, e
	}
	l, ok := index.Part(items, s)
	if !ok {
		panic("other sizes")
	}
	return l, seen, api.OK
}

// anyBytes: sixteen of them.
func anyBytes(r *rand.Rand) (b [16]byte) {
	r.Read(b[:])
	return b
}

// anyText: bytes of some kinds.
func anyText(r *rand.Rand, n int) string {
	kinds := 1 + r.Intn(255)>>r.Intn(8)
	b := make([]byte, n)
	for i := range b {
		b[i] = byte(r.Intn(kinds))
	}
	return string(b)
}

// anyEntries: so many, each with less than so many bytes.
func anyEntries(r *rand.Rand, n, most int) []index.Entry {
	var l []index.Entry
	for range n {
		l = append(l, index.Entry{Name: anyText(r, r.Intn(20)), Data: anyText(r, r.Intn(most)>>r.Intn(4))})
	}
	return l
}

// anyOptions that may be, of few rounds.
func anyOptions(r *rand.Rand) Options {
	lc := r.Intn(5)
	return Options{
		Method: method.Options{
			Mask:   r.Intn(4),
			Level:  r.Intn(3),
			Window: 1 + r.Intn(api.MaxDist)>>r.Intn(21),
			Cut:    1 + r.Intn(1000)>>r.Intn(10),
			Order:  r.Intn(api.MaxOrder + 1),
			Cells:  min(api.MinArena+r.Intn(api.MaxArena)>>r.Intn(21), api.MaxArena),
			Params: model.Params{Lc: lc, Lp: r.Intn(5 - lc), Pb: r.Intn(5)},
		},
		Block: min(api.MinBlock+r.Intn(api.MaxBlock)>>r.Intn(21), api.MaxBlock),
		Power: r.Intn(6),
		Salt:  anyBytes(r),
		IV:    anyBytes(r),
	}
}

// common options, of one round, each block as it is.
func common() Options {
	o := Options{Method: method.Common(), Block: 64, Salt: [16]byte{1, 2, 3}, IV: [16]byte{15: 9}}
	o.Method.Mask = 0
	return o
}

// three entries, two of which have one name.
func three() []index.Entry {
	return []index.Entry{{Name: "one", Data: "some text, "}, {Name: "", Data: ""}, {Name: "one", Data: strings.Repeat("and more ", 20)}}
}
