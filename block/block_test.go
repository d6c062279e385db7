package block

import (
	"encoding/hex"
	"math"
	"math/rand"
	"strings"
	"sync"
	"testing"
	"testing/synctest"

	"cassone/api"
	"cassone/method"
	"cassone/model"
)

// wantPack: what the chapter says, and that it is read back.
func wantPack(t *testing.T, s string, o method.Options) string {
	t.Helper()
	b, want := Pack(s, o), plainPack(s, o)
	if b != want {
		t.Fatalf("Pack(%.60q, %+v): %.60x, want %.60x", s, o, b, want)
	}
	if len(b) > len(s)+13 {
		t.Errorf("Pack(%.60q, %+v): %d bytes, of %d", s, o, len(b), len(s))
	}
	wantRead(t, b, len(s), s, "")
	return b
}

func wantRead(t *testing.T, b string, most int, text, rest string) {
	t.Helper()
	if s, left, e := Read(b, most); s != text || left != rest || e != api.OK {
		t.Errorf("Read(%.60x, %d): %.60q, %.60q, %d, want %.60q, %.60q", b, most, s, left, e, text, rest)
	}
}

// wantError, and nothing else.
func wantError(t *testing.T, b string, most int, want api.Errno) {
	t.Helper()
	if s, rest, e := Read(b, most); s != "" || rest != "" || e != want {
		t.Errorf("Read(%.60x, %d): %.60q, %.60q, %d, want %d", b, most, s, rest, e, want)
	}
}

// P21.1: the chapter's example.
func TestEmpty(t *testing.T) {
	r := rand.New(rand.NewSource(1))
	for range 50 {
		if b := Pack("", anyOptions(r)); b != strings.Repeat("\x00", 13) {
			t.Errorf("%x", b)
		}
	}
}

// P21.1, P21.2: blocks that other programs made.
func TestKnownBytes(t *testing.T) {
	abc, hens := strings.Repeat("abc", 8), "the hen in the hat, the hen in the hat; a cat"
	for _, c := range []struct {
		text   string
		change func(o *method.Options)
		known  string
	}{
		{"hello", func(o *method.Options) {}, "00 05000000 05000000 86a61036 68656c6c6f"},
		{abc, func(o *method.Options) { o.Mask = 0 }, "00 18000000 18000000 370f2001 " + strings.Repeat("616263", 8)},
		{abc, func(o *method.Options) { o.Mask, o.Params = 1, model.Params{} }, "01 18000000 0b000000 370f2001 00003099abdefc42350000"},
		{abc, func(o *method.Options) { o.Mask, o.Params = 1, model.Params{Lc: 4, Pb: 1} }, "01 18000000 0b000000 370f2001 310030988910a993a48000"},
		{hens, func(o *method.Options) { o.Mask, o.Order, o.Cells = 2, 3, 0x12345 }, "02 2d000000 1d000000 5ad43d14 034523010074b48db0b11a076fef1e3f82ff0991470bab266a89555200"},
	} {
		o := method.Common()
		c.change(&o)
		want, err := hex.DecodeString(strings.ReplaceAll(c.known, " ", ""))
		if err != nil {
			t.Fatal(err)
		}
		if got := Pack(c.text, o); got != string(want) {
			t.Errorf("Pack(%q, %+v): %x, want %x", c.text, o, got, want)
		}
		wantRead(t, string(want), len(c.text), c.text, "")
		wantRead(t, string(want)+"behind it", math.MaxInt, c.text, "behind it")
	}
}

// P21.1: texts for which each of the methods is the smallest one.
func TestPackEach(t *testing.T) {
	for m, s := range three() {
		if b := wantPack(t, s, method.Common()); int(b[0]) != m {
			t.Errorf("%d, want %d", b[0], m)
		}
	}
}

// P21.1, P21.3: texts and options of all kinds, beside the plain form.
func TestPackAgainstPlain(t *testing.T) {
	r := rand.New(rand.NewSource(3))
	var met [3]int
	for range 600 {
		b := wantPack(t, anyText(r, r.Intn(600)), anyOptions(r))
		met[b[0]]++
	}
	if met[0] < 20 || met[1] < 20 || met[2] < 20 {
		t.Error(met)
	}
}

// P21.1, P21.3: texts of as many bytes as a block may have.
func TestPackLargest(t *testing.T) {
	r := rand.New(rand.NewSource(4))
	stored := method.Common()
	stored.Mask = 0
	wantPack(t, anyText(r, api.MaxBlock), stored)
	wantPack(t, anyText(r, api.MaxBlock-1), stored)
	wantPack(t, strings.Repeat("\x00", api.MaxBlock), method.Common())
}

// P21.2: fewer than 13 bytes, whatever they are.
func TestHeadTrunc(t *testing.T) {
	for _, b := range []string{strings.Repeat("\x00", 13), strings.Repeat("\xff", 13), madeOf(0, "text", "text"), "\x03" + madeOf(0, "", "")[1:]} {
		for n := range 13 {
			for _, most := range []int{math.MinInt, -1, 0, 4, math.MaxInt} {
				wantError(t, b[:n], most, api.ErrTrunc)
			}
		}
	}
	wantRead(t, strings.Repeat("\x00", 13), 0, "", "")
}

// P21.2: what is no method, whatever else is wrong.
func TestNoMethod(t *testing.T) {
	for m := 3; m < 256; m++ {
		for _, most := range []int{math.MinInt, 3, 4, math.MaxInt} {
			wantError(t, madeOf(uint8(m), "text", "text"), most, api.ErrForm)
			wantError(t, made(uint8(m), 4, 5, 0, "text"), most, api.ErrForm)
		}
	}
}

// P21.2: a text of more than MaxBlock bytes, whatever else is wrong.
func TestTooGreat(t *testing.T) {
	s := strings.Repeat("x", api.MaxBlock+1)
	for _, most := range []int{math.MinInt, 0, api.MaxBlock, api.MaxBlock + 1, math.MaxInt} {
		wantError(t, madeOf(0, s, s), most, api.ErrForm)
		for _, n := range []uint32{api.MaxBlock + 1, api.MaxTotal, 1<<31 - 1, 1 << 31, 1<<32 - 4, 1<<32 - 1} {
			wantError(t, made(0, n, 4, crcOf("text"), "text"), most, api.ErrForm)
			wantError(t, made(0, n, n, 0, ""), most, api.ErrForm)
		}
	}
	wantRead(t, madeOf(0, s[1:], s[1:]), api.MaxBlock, s[1:], "")
	wantRead(t, madeOf(0, s[1:], s[1:])+"x", math.MaxInt, s[1:], "x")
}

// P21.2: a text of more bytes than wanted, though its data be wrong or lack.
func TestLimit(t *testing.T) {
	for m, s := range three() {
		b := Pack(s, method.Common())
		if int(b[0]) != m {
			t.Fatal(b[0])
		}
		wrong := b[:9] + "\x00\x00\x00\x00" + b[13:]
		for _, most := range []int{math.MinInt, -1, 0, 1, len(s) - 1} {
			wantError(t, b, most, api.ErrLimit)
			wantError(t, b+"behind it", most, api.ErrLimit)
			wantError(t, b[:13], most, api.ErrLimit)
			wantError(t, wrong, most, api.ErrLimit)
			wantError(t, b[:13]+strings.Repeat("\xff", len(b)-13), most, api.ErrLimit)
		}
		for _, most := range []int{len(s), len(s) + 1, api.MaxBlock, math.MaxInt} {
			wantRead(t, b, most, s, "")
		}
	}
	empty := Pack("", method.Common())
	wantError(t, empty, -1, api.ErrLimit)
	wantError(t, empty, math.MinInt, api.ErrLimit)
	wantRead(t, empty, 0, "", "")
}

// P21.2: fewer bytes than the data have, though those that are there be wrong.
func TestDataTrunc(t *testing.T) {
	for _, s := range three() {
		b := Pack(s, method.Common())
		for n := 13; n < len(b); n++ {
			wantError(t, b[:n], len(s), api.ErrTrunc)
			wantError(t, b[:9]+"\x00\x00\x00\x00"+strings.Repeat("\xff", n-13), len(s), api.ErrTrunc)
		}
	}
	for _, n := range []uint32{5, 6, 256, 1 << 16, 1 << 24, 1<<31 - 1, 1 << 31, 1<<32 - 4, 1<<32 - 1} {
		for m := range uint8(3) {
			wantError(t, made(m, 4, n, crcOf("text"), "text"), 4, api.ErrTrunc)
			wantError(t, made(m, 0, n, 0, "text"), 0, api.ErrTrunc)
		}
	}
}

// P21.2: data that tell no text of so many bytes, whatever its sum.
func TestUndoError(t *testing.T) {
	for m, s := range three() {
		data := Pack(s, method.Common())[13:]
		for _, sum := range []uint32{crcOf(s), 0, crcOf(s[:len(s)-1])} {
			for _, n := range []int{0, 1, len(s) / 2, 2 * len(s), api.MaxBlock} {
				wantError(t, made(uint8(m), uint32(n), uint32(len(data)), sum, data), api.MaxBlock, api.ErrForm)
			}
			for _, n := range []int{0, 1, 4, len(data) - 1} {
				wantError(t, made(uint8(m), uint32(len(s)), uint32(n), sum, data), len(s), api.ErrForm)
			}
			wantError(t, made(uint8(m), uint32(len(s)), uint32(len(data)+1), sum, data+"\x00"), len(s), api.ErrForm)
		}
	}
	// All methods of data that are none of theirs.
	for m, data := range []string{"tex", "\xff\x00\x00\x00\x00\x00", "\x11\x40\x00\x00\x00\x00\x00\x00\x00"} {
		wantError(t, made(uint8(m), 0, uint32(len(data)), 0, data), 4, api.ErrForm)
	}
}

// P21.2: a sum that isn't the text's.
func TestSum(t *testing.T) {
	for m, s := range three() {
		data := Pack(s, method.Common())[13:]
		for i := range 32 {
			wantError(t, made(uint8(m), uint32(len(s)), uint32(len(data)), crcOf(s)^1<<i, data), len(s), api.ErrSum)
			wantError(t, made(uint8(m), uint32(len(s)), uint32(len(data)), crcOf(s)^1<<i, data)+"behind it", math.MaxInt, api.ErrSum)
		}
	}
	for i := range 8 * 4 {
		b := []byte("text")
		b[i/8] ^= 1 << (i % 8)
		wantError(t, made(0, 4, 4, crcOf("text"), string(b)), 4, api.ErrSum)
	}
	// The sum is that of the text, and of these bytes alone.
	wantError(t, made(0, 4, 4, crcOf("text "), "text "), 9, api.ErrSum)
	wantError(t, made(0, 0, 0, 1, ""), 0, api.ErrSum)
}

// P21.3: any bytes behind it are told as they are.
func TestBehind(t *testing.T) {
	r := rand.New(rand.NewSource(5))
	for _, s := range three() {
		b := Pack(s, method.Common())
		for range 50 {
			behind := anyText(r, r.Intn(40))
			wantRead(t, b+behind, len(s)+r.Intn(50), s, behind)
		}
		wantRead(t, b+b, len(s), s, b)
	}
	wantRead(t, Pack("", method.Common())+"\x00", 0, "", "\x00")
}

// P1, P21.2: bytes of all kinds end, beside the plain form.
func TestReadAgainstPlain(t *testing.T) {
	r := rand.New(rand.NewSource(6))
	var blocks []string
	for _, s := range three() {
		blocks = append(blocks, Pack(s, method.Common()), Pack(s[:100], method.Common()))
	}
	met := map[api.Errno]int{}
	for range 20000 {
		b := []byte(anyText(r, r.Intn(30)))
		if i := r.Intn(8); i > 0 {
			b = []byte(blocks[r.Intn(len(blocks))])
			b[r.Intn(len(b))>>r.Intn(8)] ^= 1 << r.Intn(8)
			b = b[:len(b)-r.Intn(3)*r.Intn(2)]
			b = append(b, anyText(r, r.Intn(5))...)
		}
		most := r.Intn(3000) - 5
		want, wantRest, wantE := plainRead(string(b), most)
		met[wantE]++
		if s, rest, e := Read(string(b), most); s != want || rest != wantRest || e != wantE {
			t.Fatalf("Read(%x, %d): %q, %q, %d, want %q, %q, %d", b, most, s, rest, e, want, wantRest, wantE)
		}
	}
	for _, e := range []api.Errno{api.OK, api.ErrTrunc, api.ErrLimit, api.ErrForm, api.ErrSum} {
		if met[e] < 100 {
			t.Error(met)
		}
	}
}

// Rules: no worker stays behind.
func TestPackEnds(t *testing.T) {
	for _, s := range []string{"", "a", "abcdefg", strings.Repeat("a", 500)} {
		synctest.Test(t, func(t *testing.T) { wantPack(t, s, method.Common()) })
	}
}

// Rules: many beside one another tell what one alone tells.
func TestBeside(t *testing.T) {
	s := strings.Repeat("many beside one another; ", 30)
	want := Pack(s, method.Common())
	var all sync.WaitGroup
	for range 40 {
		all.Go(func() {
			if b := Pack(s, method.Common()); b != want {
				t.Errorf("%x, want %x", b, want)
			}
			wantRead(t, want, len(s), s, "")
		})
	}
	all.Wait()
}
