package solid

import (
	"encoding/binary"
	"hash/crc32"
	"math/rand"
	"strings"

	"cassone/api"
	"cassone/block"
	"cassone/method"
	"cassone/model"
)

// storedBlock of a text, as layer 21 says.
func storedBlock(s string) string {
	b := []byte{0}
	b = binary.LittleEndian.AppendUint32(b, uint32(len(s)))
	b = binary.LittleEndian.AppendUint32(b, uint32(len(s)))
	b = binary.LittleEndian.AppendUint32(b, crc32.ChecksumIEEE([]byte(s)))
	return string(b) + s
}

// plainPieces of a text, byte by byte.
func plainPieces(s string, size int) []string {
	var l []string
	for i := range len(s) {
		if i%size == 0 {
			l = append(l, "")
		}
		l[len(l)-1] += s[i : i+1]
	}
	return l
}

// plainPack is the chapter, word by word.
func plainPack(s string, o method.Options, size int) (string, api.Errno) {
	if !o.Good() {
		return "", api.ErrParam
	}
	if size < 16 || size > 1048576 {
		return "", api.ErrParam
	}
	if len(s) > 16777216 {
		return "", api.ErrParam
	}
	b := ""
	for _, p := range plainPieces(s, size) {
		b += block.Pack(p, o)
	}
	return b, api.OK
}

// plainRead is the chapter, word by word.
func plainRead(b string, n int) (string, api.Errno) {
	if n < 0 {
		return "", api.ErrParam
	}
	if n > 16777216 {
		return "", api.ErrParam
	}
	var texts []string
	read := 0
	for read < n {
		s, rest, e := block.Read(b, n-read)
		if e == api.ErrLimit {
			return "", api.ErrForm
		}
		if e != api.OK {
			return "", e
		}
		if len(s) == 0 {
			return "", api.ErrForm
		}
		texts = append(texts, s)
		read += len(s)
		b = rest
	}
	if len(b) > 0 {
		return "", api.ErrForm
	}
	return strings.Join(texts, ""), api.OK
}

// anyOptions of a few that may be.
func anyOptions(r *rand.Rand) method.Options {
	l := [4]method.Options{}
	for i := range l {
		l[i] = method.Common()
		l[i].Mask = i
	}
	l[1].Level, l[1].Params = method.Greedy, model.Params{Pb: 1}
	l[2].Order, l[2].Cells = 1, api.MinArena
	return l[r.Intn(len(l))]
}

// anyText: bytes of some kinds.
func anyText(r *rand.Rand, n int) string {
	kinds := "abcdefghijklmnopqrstuvwxyz, "[r.Intn(28):]
	var b strings.Builder
	for range n {
		b.WriteByte(kinds[r.Intn(len(kinds))])
	}
	return b.String()
}
