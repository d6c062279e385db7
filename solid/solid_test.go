package solid

import (
	"math"
	"math/rand"
	"strings"
	"sync"
	"testing"
	"testing/synctest"

	"cassone/api"
	"cassone/block"
	"cassone/method"
	"cassone/model"
)

// stored: options by which blocks are as they are.
func stored() method.Options {
	o := method.Common()
	o.Mask = 0
	return o
}

// wantPack: what the chapter says, and that it is read back.
func wantPack(t *testing.T, s string, o method.Options, size int) string {
	t.Helper()
	want, _ := plainPack(s, o, size)
	b, e := Pack(s, o, size)
	if b != want || e != api.OK {
		t.Fatalf("Pack(%.60q, %+v, %d): %.60x, %d, want %.60x", s, o, size, b, e, want)
	}
	if pieces := (len(s) + size - 1) / size; len(b) > len(s)+13*pieces {
		t.Errorf("Pack(%.60q, %+v, %d): %d bytes, of %d", s, o, size, len(b), len(s))
	}
	wantRead(t, b, s)
	return b
}

func wantRead(t *testing.T, b, text string) {
	t.Helper()
	if s, e := Read(b, len(text)); s != text || e != api.OK {
		t.Errorf("Read(%.60x, %d): %.60q, %d, want %.60q", b, len(text), s, e, text)
	}
}

// wantError, and nothing else.
func wantError(t *testing.T, b string, n int, want api.Errno) {
	t.Helper()
	if s, e := Read(b, n); s != "" || e != want {
		t.Errorf("Read(%.60x, %d): %.60q, %d, want %d", b, n, s, e, want)
	}
}

// wantNoPack: ErrParam, and nothing else.
func wantNoPack(t *testing.T, s string, o method.Options, size int) {
	t.Helper()
	if b, e := Pack(s, o, size); b != "" || e != api.ErrParam {
		t.Errorf("Pack(%.60q, %+v, %d): %.60x, %d", s, o, size, b, e)
	}
}

// P22.1, P22.2: the chapter's example.
func TestEmpty(t *testing.T) {
	r := rand.New(rand.NewSource(1))
	for range 50 {
		if b, e := Pack("", anyOptions(r), 16+r.Intn(api.MaxBlock-15)); b != "" || e != api.OK {
			t.Errorf("%x, %d", b, e)
		}
	}
	wantRead(t, "", "")
}

// P22.1: pieces of size bytes, of which the last one may have fewer.
func TestPieces(t *testing.T) {
	s := "0123456789abcdefghijklmnopqrstuvwxyz0123456789ABCDEF"
	for _, c := range []struct {
		n, size int
		want    []string
	}{
		{1, 16, []string{"0"}},
		{15, 16, []string{"0123456789abcde"}},
		{16, 16, []string{"0123456789abcdef"}},
		{17, 16, []string{"0123456789abcdef", "g"}},
		{31, 16, []string{"0123456789abcdef", "ghijklmnopqrstu"}},
		{32, 16, []string{"0123456789abcdef", "ghijklmnopqrstuv"}},
		{33, 16, []string{"0123456789abcdef", "ghijklmnopqrstuv", "w"}},
		{52, 16, []string{"0123456789abcdef", "ghijklmnopqrstuv", "wxyz0123456789AB", "CDEF"}},
		{52, 17, []string{"0123456789abcdefg", "hijklmnopqrstuvwx", "yz0123456789ABCDE", "F"}},
		{52, 51, []string{s[:51], "F"}},
		{52, 52, []string{s}},
		{52, 53, []string{s}},
		{52, api.MaxBlock, []string{s}},
	} {
		want := ""
		for _, p := range c.want {
			want += storedBlock(p)
		}
		if b, e := Pack(s[:c.n], stored(), c.size); b != want || e != api.OK {
			t.Errorf("Pack(%q, %d): %x, %d, want %x", s[:c.n], c.size, b, e, want)
		}
		wantRead(t, want, s[:c.n])
	}
}

// P22.1: each piece by its own smallest method, that knows nothing of the pieces ahead.
func TestPackEach(t *testing.T) {
	r := rand.New(rand.NewSource(2))
	random := make([]byte, 400)
	r.Read(random)
	again := strings.Repeat(string(random[:40]), 10)
	few := ""
	for range 400 {
		few += "aaabbc"[r.Intn(6):][:1]
	}
	l := []string{string(random), again, few, again, "a rest"}
	b := wantPack(t, strings.Join(l, ""), method.Common(), 400)
	for i, m := range []byte{method.Stored, method.Lz, method.Ppm, method.Lz, method.Stored} {
		s, rest, e := block.Read(b, 400)
		if s != l[i] || b[0] != m || e != api.OK {
			t.Errorf("%d: %.60q, %d, method %d", i, s, e, b[0])
		}
		b = rest
	}
}

// P22.1: options that may not be, of texts of all sizes.
func TestPackOptions(t *testing.T) {
	for _, change := range []func(o *method.Options){
		func(o *method.Options) { *o = method.Options{} },
		func(o *method.Options) { o.Mask = -1 },
		func(o *method.Options) { o.Mask = 4 },
		func(o *method.Options) { o.Level = -1 },
		func(o *method.Options) { o.Level = 3 },
		func(o *method.Options) { o.Window = 0 },
		func(o *method.Options) { o.Window = api.MaxDist + 1 },
		func(o *method.Options) { o.Cut = 0 },
		func(o *method.Options) { o.Cut = 1001 },
		func(o *method.Options) { o.Order = -1 },
		func(o *method.Options) { o.Order = api.MaxOrder + 1 },
		func(o *method.Options) { o.Cells = api.MinArena - 1 },
		func(o *method.Options) { o.Cells = api.MaxArena + 1 },
		func(o *method.Options) { o.Params.Lc = -1 },
		func(o *method.Options) { o.Params = model.Params{Lc: 3, Lp: 2} },
		func(o *method.Options) { o.Params.Pb = 5 },
	} {
		o := method.Common()
		change(&o)
		for _, s := range []string{"", "a text", strings.Repeat("a", 100)} {
			wantNoPack(t, s, o, 16)
			wantNoPack(t, s, o, 15)
			wantNoPack(t, s, o, api.MaxBlock)
		}
	}
}

// P22.1: sizes from MinBlock to MaxBlock, to the edges.
func TestPackSize(t *testing.T) {
	for _, s := range []string{"", "a text", strings.Repeat("a", 100)} {
		for _, size := range []int{math.MinInt, -16, -1, 0, 1, 15, api.MaxBlock + 1, api.MaxTotal, 1<<32 + 16, math.MaxInt} {
			wantNoPack(t, s, method.Common(), size)
		}
		for _, size := range []int{16, 17, 65536, api.MaxBlock - 1, api.MaxBlock} {
			wantPack(t, s, method.Common(), size)
		}
	}
}

// P22.1, P22.3: as many bytes as MaxTotal, and one more.
func TestMaxTotal(t *testing.T) {
	r := rand.New(rand.NewSource(3))
	part := make([]byte, 1<<16)
	r.Read(part)
	s := strings.Repeat(string(part), api.MaxTotal>>16)
	wantNoPack(t, s+"x", stored(), api.MaxBlock)
	wantNoPack(t, s+"x", stored(), 16)
	b, e := Pack(s, stored(), api.MaxBlock)
	if e != api.OK || b != strings.Repeat(storedBlock(s[:api.MaxBlock]), 16) {
		t.Fatalf("%.60x, %d", b, e)
	}
	wantRead(t, b, s)
	wantError(t, b+storedBlock("x"), api.MaxTotal, api.ErrForm)
	wantError(t, b+storedBlock("x"), api.MaxTotal+1, api.ErrParam)
}

// P22.1, P22.3: texts, options and sizes of all kinds, beside the plain form.
func TestPackAgainstPlain(t *testing.T) {
	r := rand.New(rand.NewSource(4))
	for range 300 {
		wantPack(t, anyText(r, r.Intn(400)), anyOptions(r), 16+r.Intn(2048)>>r.Intn(12))
	}
}

// P22.2: n below 0 and above MaxTotal, whatever there is.
func TestReadParam(t *testing.T) {
	for _, b := range []string{"", "x", storedBlock("text"), storedBlock(""), strings.Repeat("\xff", 50)} {
		for _, n := range []int{math.MinInt, -4, -1, api.MaxTotal + 1, 1 << 32, 1<<32 + 4, math.MaxInt} {
			wantError(t, b, n, api.ErrParam)
		}
	}
	wantError(t, "", api.MaxTotal, api.ErrTrunc)
}

// P22.2: blocks of any sizes, by any method.
func TestReadSizes(t *testing.T) {
	r := rand.New(rand.NewSource(5))
	for range 100 {
		b, text := "", ""
		for range r.Intn(20) {
			s := anyText(r, 1+r.Intn(200)>>r.Intn(8))
			b += block.Pack(s, anyOptions(r))
			text += s
		}
		wantRead(t, b, text)
	}
	s := strings.Repeat("x", api.MaxBlock)
	wantRead(t, storedBlock(s)+storedBlock("x")+storedBlock(s), s+"x"+s)
}

// P22.2: fewer bytes than n.
func TestReadTrunc(t *testing.T) {
	b := storedBlock("one")
	two := storedBlock("two")
	for n := range len(two) {
		wantError(t, b+two[:n], 6, api.ErrTrunc)
		wantError(t, two[:n], 3, api.ErrTrunc)
	}
	for _, n := range []int{7, 8, 19, 1000, api.MaxTotal} {
		wantError(t, b+two, n, api.ErrTrunc)
		wantError(t, "", n, api.ErrTrunc)
	}
	wantRead(t, b+two, "onetwo")
}

// P22.2: a block of more bytes than are wanted still is ErrForm, though its data be wrong or lack.
func TestReadLimit(t *testing.T) {
	one, two := storedBlock("one"), storedBlock("two two")
	for n := 4; n < 10; n++ {
		wantError(t, one+two, n, api.ErrForm)
		wantError(t, one+two[:13], n, api.ErrForm)
		wantError(t, one+two[:13]+"not two", n, api.ErrForm)
		wantError(t, one+two+"behind it", n, api.ErrForm)
	}
	for _, n := range []int{1, 2} {
		wantError(t, one, n, api.ErrForm)
	}
	wantRead(t, one+two, "onetwo two")
}

// P22.2: a block's other errors are those of the text; of several blocks that are wrong the first one's.
func TestReadErrors(t *testing.T) {
	one := storedBlock("one")
	none := "\x03" + one[1:]
	sum := one[:12] + "\x00" + one[13:]
	data := one[:13] + "two"
	undo := "\x01" + one[1:]
	great := "\x00\x01\x00\x10\x00" + one[5:]
	lack := one[:5] + "\xff" + one[6:]
	for _, c := range []struct {
		block string
		want  api.Errno
	}{
		{none, api.ErrForm},
		{sum, api.ErrSum},
		{data, api.ErrSum},
		{undo, api.ErrForm},
		{great, api.ErrForm},
		{lack, api.ErrTrunc},
	} {
		wantError(t, c.block, 3, c.want)
		wantError(t, one+c.block, 6, c.want)
		wantError(t, one+one+c.block+one, 12, c.want)
		if c.block == lack {
			continue
		}
		for _, behind := range []string{none, sum, data, undo, great, lack, "\x00"} {
			wantError(t, one+c.block+behind, 9, c.want)
			wantError(t, one+c.block+behind, 6, c.want)
		}
	}
}

// P22.2: a block without text is ErrForm, wherever it stands.
func TestReadEmpty(t *testing.T) {
	one, empty := storedBlock("one"), storedBlock("")
	wantError(t, empty, 0, api.ErrForm)
	wantError(t, empty, 1, api.ErrForm)
	wantError(t, empty+one, 3, api.ErrForm)
	wantError(t, one+empty, 3, api.ErrForm)
	wantError(t, one+empty, 4, api.ErrForm)
	wantError(t, one+empty+one, 6, api.ErrForm)
	wantError(t, strings.Repeat(empty, 100), api.MaxTotal, api.ErrForm)
	// By the other methods too.
	wantError(t, "\x01\x00\x00\x00\x00\x06\x00\x00\x00\x00\x00\x00\x00"+"\x00\x00\x00\x00\x00\x00"+one, 3, api.ErrForm)
	wantError(t, "\x02\x00\x00\x00\x00\x09\x00\x00\x00\x00\x00\x00\x00"+"\x00\x40\x00\x00\x00\x00\x00\x00\x00"+one, 3, api.ErrForm)
	// A sum that isn't right is found ahead of it.
	wantError(t, empty[:12]+"\x01"+one, 3, api.ErrSum)
}

// P22.2: bytes that are left.
func TestReadLeft(t *testing.T) {
	one := storedBlock("one")
	for _, left := range []string{"\x00", "x", one, one[:12], strings.Repeat("\xff", 40)} {
		wantError(t, one+left, 3, api.ErrForm)
		wantError(t, one+one+left, 6, api.ErrForm)
		wantError(t, left, 0, api.ErrForm)
	}
}

// P1, P22.2: bytes of all kinds end, beside the plain form.
func TestReadAgainstPlain(t *testing.T) {
	r := rand.New(rand.NewSource(6))
	met := map[api.Errno]int{}
	for range 4000 {
		text := anyText(r, r.Intn(200))
		packed, _ := Pack(text, anyOptions(r), 16+r.Intn(60))
		b := []byte(packed + anyText(r, r.Intn(20)*(r.Intn(5)/4)))
		if len(b) > 0 && r.Intn(3) > 0 {
			b[r.Intn(len(b))] ^= 1 << r.Intn(8)
			b = b[:len(b)-r.Intn(2)*r.Intn(2)]
		}
		n := len(text) + r.Intn(4)*(r.Intn(3)-1)
		want, wantE := plainRead(string(b), n)
		met[wantE]++
		if s, e := Read(string(b), n); s != want || e != wantE {
			t.Fatalf("Read(%x, %d): %q, %d, want %q, %d", b, n, s, e, want, wantE)
		}
	}
	for _, e := range []api.Errno{api.OK, api.ErrTrunc, api.ErrForm, api.ErrSum} {
		if met[e] < 100 {
			t.Error(met)
		}
	}
}

// Rules: no worker stays behind.
func TestPackEnds(t *testing.T) {
	for _, s := range []string{"", "a", strings.Repeat("abcdefg", 50)} {
		synctest.Test(t, func(t *testing.T) { wantPack(t, s, method.Common(), 16) })
	}
}

// Rules: many beside one another tell what one alone tells.
func TestBeside(t *testing.T) {
	s := strings.Repeat("many beside one another; ", 30)
	want, _ := Pack(s, method.Common(), 100)
	var all sync.WaitGroup
	for range 20 {
		all.Go(func() {
			if b, e := Pack(s, method.Common(), 100); b != want || e != api.OK {
				t.Errorf("%x, %d, want %x", b, e, want)
			}
			wantRead(t, want, s)
		})
	}
	all.Wait()
}
