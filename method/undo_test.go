package method

import (
	"math"
	"math/rand"
	"strings"
	"testing"

	"cassone/api"
	"cassone/lzenc"
	"cassone/model"
	"cassone/ppm"
)

func wantUndo(t *testing.T, method uint8, data string, n, most int, want string) {
	t.Helper()
	if got, e := Undo(method, data, n, most); e != api.OK || got != want {
		t.Errorf("Undo(%d, %.60x, %d, %d): %.60q, %d, want %.60q", method, data, n, most, got, e, want)
	}
}

// wantError, and nothing else.
func wantError(t *testing.T, method uint8, data string, n, most int, want api.Errno) {
	t.Helper()
	if got, e := Undo(method, data, n, most); e != want || got != "" {
		t.Errorf("Undo(%d, %.60x, %d, %d): %.60q, %d, want %d", method, data, n, most, got, e, want)
	}
}

// told is a text, and its data by each of the methods.
func told(t *testing.T) (s string, data [3]string) {
	t.Helper()
	s = strings.Repeat("told by three; ", 20)
	for m := range data {
		var ok bool
		if data[m], ok = Code(s, uint8(m), Common()); !ok {
			t.Fatal(m)
		}
	}
	return s, data
}

// P20.2: n above most, whatever else is wrong.
func TestUndoLimit(t *testing.T) {
	s, data := told(t)
	for m := range 256 {
		for _, d := range append(data[:], "", "x") {
			for _, c := range [][2]int{{len(s), len(s) - 1}, {1, 0}, {0, -1}, {-1, -2}, {math.MaxInt, math.MaxInt - 1}, {len(s), math.MinInt}, {math.MaxInt, math.MinInt}} {
				wantError(t, uint8(m), d, c[0], c[1], api.ErrLimit)
			}
		}
	}
	for m, d := range data {
		for _, most := range []int{len(s), len(s) + 1, math.MaxInt} {
			wantUndo(t, uint8(m), d, len(s), most, s)
		}
	}
}

// P20.2: n below 0; of Lz also where the bytes have an end, up to which they could be read.
func TestUndoBelow(t *testing.T) {
	_, data := told(t)
	end, _ := lzenc.Encode(nil, model.Params{}, true)
	for m := range 256 {
		for _, d := range append(data[:], "", "\x00"+end) {
			for _, c := range [][2]int{{-1, -1}, {-1, 0}, {-1, 1000}, {-2, 1000}, {math.MinInt, math.MinInt}, {math.MinInt, math.MaxInt}} {
				wantError(t, uint8(m), d, c[0], c[1], api.ErrForm)
			}
		}
	}
}

// P20.2: what is no method.
func TestUndoNone(t *testing.T) {
	s, data := told(t)
	for m := 3; m < 256; m++ {
		for _, d := range data {
			wantError(t, uint8(m), d, len(s), len(s), api.ErrForm)
		}
		wantError(t, uint8(m), "", 0, 0, api.ErrForm)
	}
}

// P20.2: Stored data, of n bytes.
func TestUndoStored(t *testing.T) {
	for _, s := range []string{"", "a", "ab", strings.Repeat("\x00", 1000)} {
		for n := range len(s) + 3 {
			if n == len(s) {
				wantUndo(t, Stored, s, n, n, s)
				wantUndo(t, Stored, s, n, math.MaxInt, s)
			} else {
				wantError(t, Stored, s, n, n, api.ErrForm)
			}
		}
		wantError(t, Stored, s, math.MaxInt, math.MaxInt, api.ErrForm)
	}
}

// P20.2: each first byte of Lz data.
func TestUndoParams(t *testing.T) {
	good := map[byte]model.Params{}
	for _, p := range goodParams() {
		good[byte((p.Pb*5+p.Lp)*9+p.Lc)] = p
	}
	if len(good) != 75 {
		t.Fatal(len(good))
	}
	s := strings.Repeat("each first byte; ", 5)
	o := Common()
	for b := range 256 {
		p, ok := good[byte(b)]
		o.Params = p
		data := bytesOf(b) + plainLz(s, o)[1:]
		if ok {
			wantUndo(t, Lz, data, len(s), len(s), s)
			wantUndo(t, Lz, bytesOf(b)+none, 0, 0, "")
			continue
		}
		wantError(t, Lz, data, len(s), len(s), api.ErrForm)
		wantError(t, Lz, bytesOf(b)+none, 0, 0, api.ErrForm)
	}
}

// P20.2: Lz data that tell no text of n bytes.
func TestUndoLz(t *testing.T) {
	s, data := told(t)
	lz := data[Lz]
	for i := range len(lz) {
		wantError(t, Lz, lz[:i], len(s), len(s), api.ErrForm)
		wantError(t, Lz, lz[:i], 0, 0, api.ErrForm)
	}
	for _, more := range []string{"\x00", "\xff", none} {
		wantError(t, Lz, lz+more, len(s), len(s), api.ErrForm)
	}
	for n := range len(s) {
		wantError(t, Lz, lz, n, len(s), api.ErrForm)
	}
	// There is no n by which an end may come.
	end, _ := lzenc.Encode(plainPieces(s, Common()), Common().Params, true)
	for n := range len(s) + 5 {
		wantError(t, Lz, lz[:1]+end, n, math.MaxInt, api.ErrForm)
	}
	wantError(t, Lz, lz[:1]+"\x01"+lz[2:], len(s), len(s), api.ErrForm)
	wantError(t, Lz, lz, math.MaxInt, math.MaxInt, api.ErrForm)
}

// P20.2: n is all that Lz data may tell, though most be greater: a packet beyond it tells no text.
func TestUndoLzAtMost(t *testing.T) {
	l := plainPieces("abcabcabc", Common())
	data, _ := lzenc.Encode(l, model.Params{}, false)
	wantUndo(t, Lz, "\x00"+data, 9, 9, "abcabcabc")
	wantUndo(t, Lz, "\x00"+data, 9, math.MaxInt, "abcabcabc")
	for _, n := range []int{4, 5, 7, 8} {
		wantError(t, Lz, "\x00"+data, n, 9, api.ErrForm)
		wantError(t, Lz, "\x00"+data, n, n, api.ErrForm)
	}
}

// P20.2: the first four bytes of Ppm data.
func TestUndoContexts(t *testing.T) {
	s := strings.Repeat("the first four bytes; ", 3)
	for _, cells := range []int{0, 1, 63, 64, 65, 255, 256, 257, 65535, 65536, 65537, 1<<20 - 1, 1 << 20, 1<<20 + 1, 1<<20 + 64, 1<<24 - 1} {
		for order := range 256 {
			head := bytesOf(order, cells%256, cells/256%256, cells/65536)
			data := head + ppm.Encode(s, order, cells)
			if order > 16 || cells < 64 || cells > 1<<20 {
				wantError(t, Ppm, data, len(s), len(s), api.ErrForm)
				wantError(t, Ppm, head+none, 0, 0, api.ErrForm)
				continue
			}
			wantUndo(t, Ppm, data, len(s), len(s), s)
			wantUndo(t, Ppm, data, len(s), math.MaxInt, s)
			wantUndo(t, Ppm, head+none, 0, 0, "")
		}
	}
}

// P20.2: Ppm data that tell no text of n bytes, and n above MaxTotal.
func TestUndoPpm(t *testing.T) {
	s, data := told(t)
	p := data[Ppm]
	for i := range len(p) {
		wantError(t, Ppm, p[:i], len(s), len(s), api.ErrForm)
		wantError(t, Ppm, p[:i], 0, 0, api.ErrForm)
	}
	for _, more := range []string{"\x00", "\xff", none} {
		wantError(t, Ppm, p+more, len(s), len(s), api.ErrForm)
	}
	wantError(t, Ppm, p[:4]+"\x01"+p[5:], len(s), len(s), api.ErrForm)
	for _, n := range []int{api.MaxTotal + 1, math.MaxInt} {
		wantError(t, Ppm, p, n, n, api.ErrForm)
		wantError(t, Ppm, "\x00\x40\x00\x00"+none, n, math.MaxInt, api.ErrForm)
	}
}

// P20.2: data that Code wouldn't tell, as they have too many bytes, tell their text all the same.
func TestUndoGreater(t *testing.T) {
	r := rand.New(rand.NewSource(1))
	for range 200 {
		o := anyOptions(r)
		b := make([]byte, r.Intn(30))
		r.Read(b)
		s := string(b)
		wantUndo(t, Lz, plainLz(s, o), len(s), len(s), s)
		wantUndo(t, Ppm, plainPpm(s, o), len(s), len(s), s)
	}
}

// P1, P20.2: bytes of all kinds end; what they tell has n bytes, and beside an error there is none.
func TestUndoAnyBytes(t *testing.T) {
	r := rand.New(rand.NewSource(2))
	s, data := told(t)
	for range 20000 {
		m := r.Intn(4)
		b := make([]byte, r.Intn(40))
		r.Read(b)
		if m < 3 && r.Intn(2) == 0 {
			b = []byte(data[m])
			b[r.Intn(len(b))] ^= 1 << r.Intn(8)
		}
		n, most := r.Intn(len(s)+2)-1, r.Intn(2*len(s))-1
		got, e := Undo(uint8(m), string(b), n, most)
		switch {
		case n > most && e == api.ErrLimit && got == "":
		case n <= most && e == api.ErrForm && got == "":
		case n <= most && n >= 0 && e == api.OK && len(got) == n:
		default:
			t.Fatalf("Undo(%d, %x, %d, %d): %q, %d", m, b, n, most, got, e)
		}
	}
}
