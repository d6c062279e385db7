package block

import (
	"encoding/binary"
	"hash/crc32"
	"math/rand"
	"strings"

	"cassone/api"
	"cassone/method"
	"cassone/model"
)

// made of parts, that may be wrong.
func made(method uint8, text, data uint32, sum uint32, behind string) string {
	b := []byte{method}
	b = binary.LittleEndian.AppendUint32(b, text)
	b = binary.LittleEndian.AppendUint32(b, data)
	b = binary.LittleEndian.AppendUint32(b, sum)
	return string(b) + behind
}

func crcOf(s string) uint32 { return crc32.ChecksumIEEE([]byte(s)) }

// madeOf a text, whose data by a method are these.
func madeOf(method uint8, s, data string) string {
	return made(method, uint32(len(s)), uint32(len(data)), crcOf(s), data)
}

// plainPack is the chapter, word by word.
func plainPack(s string, o method.Options) string {
	m, data := method.Try(s, o)
	return madeOf(m, s, data)
}

// plainRead is the chapter, word by word.
func plainRead(b string, most int) (s, rest string, e api.Errno) {
	if len(b) < 13 {
		return "", "", api.ErrTrunc
	}
	m := b[0]
	text := int64(binary.LittleEndian.Uint32([]byte(b[1:5])))
	data := int64(binary.LittleEndian.Uint32([]byte(b[5:9])))
	sum := binary.LittleEndian.Uint32([]byte(b[9:13]))
	if m != 0 && m != 1 && m != 2 {
		return "", "", api.ErrForm
	}
	if text > 1048576 {
		return "", "", api.ErrForm
	}
	if text > int64(most) {
		return "", "", api.ErrLimit
	}
	if int64(len(b)-13) < data {
		return "", "", api.ErrTrunc
	}
	s, e = method.Undo(m, b[13:13+data], int(text), most)
	if e != api.OK {
		return "", "", api.ErrForm
	}
	if crcOf(s) != sum {
		return "", "", api.ErrSum
	}
	return s, b[13+data:], api.OK
}

// anyOptions that may be.
func anyOptions(r *rand.Rand) method.Options {
	lc := r.Intn(5)
	return method.Options{
		Mask:   r.Intn(4),
		Level:  r.Intn(3),
		Window: 1 + r.Intn(api.MaxDist)>>r.Intn(21),
		Cut:    1 + r.Intn(1000)>>r.Intn(10),
		Order:  r.Intn(api.MaxOrder + 1),
		Cells:  min(api.MinArena+r.Intn(api.MaxArena)>>r.Intn(21), api.MaxArena),
		Params: model.Params{Lc: lc, Lp: r.Intn(5 - lc), Pb: r.Intn(5)},
	}
}

// anyText of some kinds of bytes, half of them such as come back.
func anyText(r *rand.Rand, n int) string {
	kinds := 1 + r.Intn(255)>>r.Intn(8)
	b := make([]byte, n)
	for i := range b {
		b[i] = byte(r.Intn(kinds))
	}
	if r.Intn(2) == 0 {
		return string(b)
	}
	return strings.Repeat(string(b[:n-n*3/4]), 4)[:n]
}

// three texts, each of which is the smallest by another method.
func three() [3]string {
	r := rand.New(rand.NewSource(2))
	var all, few strings.Builder
	for range 400 {
		all.WriteByte(byte(r.Intn(256)))
		few.WriteByte("aaabbc"[r.Intn(6)])
	}
	return [3]string{all.String(), strings.Repeat(all.String(), 7), few.String()}
}
