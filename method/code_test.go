package method

import (
	"encoding/hex"
	"math/rand"
	"strings"
	"testing"

	"cassone/api"
	"cassone/model"
)

// wantCode: what the chapter says, and that it tells the text.
func wantCode(t *testing.T, s string, method uint8, o Options) {
	t.Helper()
	want, wantOk := plainCode(s, method, o)
	got, ok := Code(s, method, o)
	if got != want || ok != wantOk {
		t.Fatalf("Code(%.60q, %d, %+v): %.60x, %v, want %.60x, %v", s, method, o, got, ok, want, wantOk)
	}
	if ok {
		wantUndo(t, method, got, len(s), len(s), s)
	}
}

// P20.1: the bytes of Lz and Ppm, that other programs made.
func TestKnownBytes(t *testing.T) {
	abc, hens := strings.Repeat("abc", 8), "the hen in the hat, the hen in the hat; a cat"
	for _, c := range []struct {
		text   string
		method uint8
		change func(o *Options)
		known  string
	}{
		{abc, Lz, func(o *Options) { o.Params = model.Params{} }, "00 003099abdefc42350000"},
		{abc, Lz, func(o *Options) { o.Params = model.Params{Lc: 4, Pb: 1} }, "31 0030988910a993a48000"},
		{hens, Ppm, func(o *Options) { o.Order, o.Cells = 3, 500 }, "03f40100 0074b48db0b11a076fef1e3f82ff0991470bab266a89555200"},
		{hens, Ppm, func(o *Options) { o.Order, o.Cells = 2, 64 }, "02400000 0074b48db0b11a076fef1a6be18ca8b1dd906c242d3d1c754d1500"},
		{hens, Ppm, func(o *Options) { o.Order, o.Cells = 3, 0x12345 }, "03452301 0074b48db0b11a076fef1e3f82ff0991470bab266a89555200"},
		{hens, Ppm, func(o *Options) { o.Order, o.Cells = 3, api.MaxArena }, "03000010 0074b48db0b11a076fef1e3f82ff0991470bab266a89555200"},
	} {
		for level := range 3 {
			o := Common()
			o.Level = level
			c.change(&o)
			want, err := hex.DecodeString(strings.ReplaceAll(c.known, " ", ""))
			if err != nil {
				t.Fatal(err)
			}
			if got, ok := Code(c.text, c.method, o); got != string(want) || !ok {
				t.Errorf("Code(%q, %d, %+v): %x, %v, want %x", c.text, c.method, o, got, ok, want)
			}
			wantUndo(t, c.method, string(want), len(c.text), len(c.text), c.text)
		}
	}
}

// P20.1: Stored is as it is, whatever the options.
func TestCodeStored(t *testing.T) {
	for _, s := range []string{"", "x", strings.Repeat("ab", 500)} {
		for mask := range 4 {
			o := Common()
			o.Mask = mask
			if got, ok := Code(s, Stored, o); got != s || !ok {
				t.Errorf("Code(%q), mask %d: %q, %v", s, mask, got, ok)
			}
		}
	}
}

// P20.1: Lz and Ppm, just where Mask has them.
func TestCodeMask(t *testing.T) {
	s := strings.Repeat("abcdefg", 40)
	for mask := range 4 {
		o := Common()
		o.Mask = mask
		for m := range uint8(3) {
			wantCode(t, s, m, o)
			_, ok := Code(s, m, o)
			if want := []bool{true, mask == 1 || mask == 3, mask == 2 || mask == 3}[m]; ok != want {
				t.Errorf("mask %d, method %d: %v", mask, m, ok)
			}
		}
	}
}

// P20.1: what is no method tells nothing.
func TestCodeNone(t *testing.T) {
	for mask := range 4 {
		o := Common()
		o.Mask = mask
		for m := 3; m < 256; m++ {
			if got, ok := Code(strings.Repeat("a", 1000), uint8(m), o); got != "" || ok {
				t.Errorf("method %d: %x, %v", m, got, ok)
			}
		}
	}
}

// P20.1: Lz by all Params, and each level, window and cut.
func TestCodeLz(t *testing.T) {
	r := rand.New(rand.NewSource(1))
	o := Common()
	s := anyText(r, 300) + strings.Repeat("abc", 100)
	for _, o.Params = range goodParams() {
		wantCode(t, s, Lz, o)
	}
	for o.Level = range 3 {
		for _, o.Window = range []int{1, 2, 3, 100, 65536, api.MaxDist} {
			for _, o.Cut = range []int{1, 2, 7, 1000} {
				wantCode(t, s, Lz, o)
			}
		}
	}
}

// P20.1: each level has pieces of its own, and window and cut count.
func TestCodeLevels(t *testing.T) {
	s := strings.Repeat("abcxbcdeabcde, bcdefg, abcxbcdefg. ", 3) + strings.Repeat("abd", 5) + "abcxbcdeabcde, xbcdefg"
	o := Common()
	seen := map[string]bool{}
	for o.Level = range 3 {
		wantCode(t, s, Lz, o)
		data, ok := Code(s, Lz, o)
		if !ok || seen[data] {
			t.Errorf("level %d: %x, %v", o.Level, data, ok)
		}
		seen[data] = true
	}
	common, _ := Code(s, Lz, Common())
	o = Common()
	o.Window = 3
	if data, _ := Code(s, Lz, o); data == common {
		t.Error("the window doesn't count")
	}
	// The greedy one meets nearer, shorter matches first.
	o = Common()
	o.Level = Greedy
	many, _ := Code(s, Lz, o)
	o.Cut = 1
	if data, _ := Code(s, Lz, o); data == many {
		t.Error("the cut doesn't count")
	}
}

// P20.1: Ppm by orders and cells.
func TestCodePpm(t *testing.T) {
	r := rand.New(rand.NewSource(2))
	o := Common()
	s := anyText(r, 300) + strings.Repeat("abcd", 100)
	for o.Order = range api.MaxOrder + 1 {
		for _, o.Cells = range []int{64, 65, 255, 256, 257, 65535, 65536, 65537, api.MaxArena} {
			wantCode(t, s, Ppm, o)
		}
	}
}

// P20.1: fewer bytes than the text has, to the byte.
func TestCodeFewer(t *testing.T) {
	r := rand.New(rand.NewSource(3))
	// met counts, for each method: as many bytes as the text, one less, and one more.
	var met [3][3]int
	for range 4000 {
		o := Common()
		o.Level, o.Order, o.Cells = r.Intn(3), r.Intn(3), 64+r.Intn(300)
		s := anyText(r, r.Intn(40))
		for m, n := range []int{len(s), len(plainLz(s, o)), len(plainPpm(s, o))} {
			wantCode(t, s, uint8(m), o)
			if d := n - len(s) + 1; d >= 0 && d <= 2 {
				met[m][d]++
			}
		}
	}
	for _, m := range met[1:] {
		if m[0] == 0 || m[1] == 0 || m[2] == 0 {
			t.Errorf("one less, as many, one more: %v", met)
		}
	}
}

// P20.1, P20.3: texts and options of all kinds, beside the plain form.
func TestCodeAgainstPlain(t *testing.T) {
	r := rand.New(rand.NewSource(4))
	for range 1500 {
		o := anyOptions(r)
		s := anyText(r, r.Intn(600))
		for m := range uint8(4) {
			wantCode(t, s, m, o)
		}
	}
}

// P20.3: long texts, of bytes that come back from far.
func TestCodeLong(t *testing.T) {
	r := rand.New(rand.NewSource(5))
	far := anyText(r, 70000)
	s := far + strings.Repeat("far", 20) + far
	for level := range 3 {
		o := Common()
		o.Level, o.Window = level, api.MaxDist
		wantCode(t, s, Lz, o)
	}
	wantCode(t, s, Ppm, Common())
}
