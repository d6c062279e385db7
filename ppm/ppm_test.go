package ppm

import (
	"encoding/hex"
	"math"
	"math/rand"
	"strings"
	"testing"

	"cassone/api"
)

const (
	none = "\x00\x00\x00\x00\x00"
	hen  = "the hen in the hat, the hen in the hat; a cat"
)

// wantBytes of a text, and that these tell it.
func wantBytes(t *testing.T, s string, order, cells int, want string) {
	t.Helper()
	if got := Encode(s, order, cells); got != want {
		t.Errorf("Encode(%.60q, %d, %d): %.60x, want %.60x", s, order, cells, got, want)
	}
	wantText(t, want, order, cells, s)
}

func wantText(t *testing.T, b string, order, cells int, want string) {
	t.Helper()
	if got, e := Decode(b, order, cells, len(want)); e != api.OK || got != want {
		t.Errorf("Decode(%.60x, %d, %d, %d): %.60q, %d, want %.60q", b, order, cells, len(want), got, e, want)
	}
}

// wantError, and nothing else.
func wantError(t *testing.T, b string, order, cells, n int, want api.Errno) {
	t.Helper()
	if got, e := Decode(b, order, cells, n); e != want || got != "" {
		t.Errorf("Decode(%.60x, %d, %d, %d): %.60q, %d, want %d", b, order, cells, n, got, e, want)
	}
}

// P19.1, P19.2: the chapter's example, by all orders.
func TestEmpty(t *testing.T) {
	for order := range api.MaxOrder + 1 {
		for _, cells := range []int{api.MinArena, 1000, api.MaxArena} {
			wantBytes(t, "", order, cells, none)
		}
	}
}

// P19.1: parts worked out by hand.
func TestByHand(t *testing.T) {
	wantBytes(t, "aababc", 1, 1000, encodeParts(
		part{'a', 1, 256},                                   // no table is there
		part{0, 1, 2},                                       // behind none: a 1
		part{1, 1, 2}, part{0, 1, 1}, part{'b' - 1, 1, 255}, // behind a: a 1; behind none a 2, which it can't be; any but a
		part{0, 2, 5},                                       // behind none: a 2, b 1
		part{1, 1, 4},                                       // behind a: a 1, b 1
		part{1, 1, 2}, part{1, 1, 2}, part{'c' - 2, 1, 254}, // behind b: a 1; behind none b 1, as a can't be; any but a and b
	))
	// Found behind a, b isn't Added to those behind none: there it has 1 still.
	wantBytes(t, "abcababb", 1, 1000, encodeParts(
		part{'a', 1, 256},
		part{1, 1, 2}, part{'b' - 1, 1, 255},
		part{2, 2, 4}, part{'c' - 2, 1, 254},
		part{0, 1, 6},                // behind none: a, b, c 1; then a 2, and behind c a 1
		part{0, 1, 2},                // behind a: b 1, then 2
		part{1, 1, 2}, part{0, 2, 5}, // behind b: c 1; behind none: a 2, b 1 count; then a 3, and behind b c 1, a 1
		part{0, 2, 3},                // behind a: b 2
		part{2, 2, 4}, part{0, 1, 2}, // behind b: c 1, a 1; behind none b 1 counts alone
	))
	wantBytes(t, "abab", 0, 1000, encodeParts(
		part{'a', 1, 256},
		part{1, 1, 2}, part{'b' - 1, 1, 255},
		part{0, 1, 4},
		part{2, 1, 5},
	))
}

// P19.1, P19.2: bytes that another program made.
func TestKnownBytes(t *testing.T) {
	for _, c := range []struct {
		text         string
		order, cells int
		known        string
	}{
		{"a", 4, 65536, "0060ffff9f00"},
		{"aa", 0, 64, "0060ffff9f00"},
		{"aab", 1, 64, "00615857f70000"},
		{"abracadabra", 0, 64, "0061b10cebf6ec4f56c39a00"},
		{"abracadabra", 2, 1000, "0061b10ced7bfa6a0d010000"},
		{"abracadabra", 16, api.MaxArena, "0061b10ced7bfa6a0d010000"},
		{hen, 3, 500, "0074b48db0b11a076fef1e3f82ff0991470bab266a89555200"},
		{hen, 2, 64, "0074b48db0b11a076fef1a6be18ca8b1dd906c242d3d1c754d1500"},
		{hen, 0, 64, "0074b48db0b1057fba53a49ce10bc7edb2e605fb7680ce6e67206937239e00"},
		{strings.Repeat("\x00", 300), 2, 64, "00000000000000"},
		{"\xff\x00\xff\xff\x00\x00\x01\xfe\xff\x00", 1, 99, "00ff8010bd3d3a8ef800"},
	} {
		b, err := hex.DecodeString(c.known)
		if err != nil {
			t.Fatal(err)
		}
		wantBytes(t, c.text, c.order, c.cells, string(b))
	}
}

// P19.1, P19.3: texts of all kinds, beside the plain form; and each comes back.
func TestAgainstPlain(t *testing.T) {
	r := rand.New(rand.NewSource(1))
	for _, kinds := range []int{1, 2, 4, 30, 256} {
		for _, order := range []int{0, 1, 2, 5, 16} {
			for _, cells := range []int{64, 65, 300, 5000, api.MaxArena} {
				for _, n := range []int{1, 2, 30, 700} {
					s := randomText(r, n, kinds)
					wantBytes(t, s, order, cells, plainEncode(s, order, cells))
				}
			}
		}
	}
}

// P19.1: counts that halve, in long texts of few signs.
func TestLong(t *testing.T) {
	r := rand.New(rand.NewSource(2))
	for _, order := range []int{0, 3} {
		s := strings.Repeat("a", 1000) + randomText(r, 5000, 3) + strings.Repeat("ab", 2000)
		wantBytes(t, s, order, 2000, plainEncode(s, order, 2000))
	}
	all := strings.Repeat(allBytes(), 20)
	wantBytes(t, all, 0, 1000, plainEncode(all, 0, 1000))
	wantBytes(t, all, 2, 4000, plainEncode(all, 2, 4000))
}

// P19.1, P19.2: orders and cells beyond theirs are the nearest ones (layer 18).
func TestBeyond(t *testing.T) {
	s := strings.Repeat("abcdefghijklmnopqrst", 3) + "Aefghijklmnopqrst" + "Bdefghijklmnopqrst"
	for order, like := range map[int]int{math.MinInt: 0, -1: 0, 17: 16, 1000: 16, math.MaxInt: 16} {
		wantBytes(t, s, order, 9000, plainEncode(s, like, 9000))
	}
	if Encode(s, 15, 9000) == Encode(s, 16, 9000) || Encode(s, 0, 9000) == Encode(s, 1, 9000) {
		t.Error("the order doesn't count")
	}
	// 64 signs: with the table itself they take 65 cells.
	s = allBytes()[:64] + "abcabc" + s
	for cells, like := range map[int]int{math.MinInt: 64, -1: 64, 0: 64, 63: 64, api.MaxArena + 1: api.MaxArena, math.MaxInt: api.MaxArena} {
		wantBytes(t, s, 0, cells, plainEncode(s, 0, like))
	}
	if Encode(s, 0, 64) == Encode(s, 0, 65) {
		t.Error("the cells don't count")
	}
}

// P19.1: a text that fills even the greatest arena.
func TestGreatestArena(t *testing.T) {
	r := rand.New(rand.NewSource(3))
	b := make([]byte, 40000)
	r.Read(b)
	s := string(b)
	want := Encode(s, 16, api.MaxArena)
	wantBytes(t, s, 16, api.MaxArena+1, want)
	wantBytes(t, s, 16, math.MaxInt, want)
	if want != plainEncode(s, 16, api.MaxArena) || want == Encode(s, 16, api.MaxArena-40) {
		t.Error("not as by the greatest arena")
	}
}

// P19.2: n below 0, or above MaxTotal, whatever the bytes.
func TestParam(t *testing.T) {
	for _, b := range []string{"", none, "\x01", Encode(hen, 2, 64)} {
		for _, n := range []int{-1, -2, math.MinInt, api.MaxTotal + 1, math.MaxInt} {
			for _, order := range []int{-1, 0, 2, 17} {
				for _, cells := range []int{0, 64, math.MaxInt} {
					wantError(t, b, order, cells, n, api.ErrParam)
				}
			}
		}
	}
}

// P19.2, P19.3: MaxTotal signs may be.
func TestMaxTotal(t *testing.T) {
	s := strings.Repeat("\x00", api.MaxTotal-1) + "a"
	wantText(t, Encode(s, 0, 64), 0, 64, s)
	wantError(t, "", 16, api.MaxArena, api.MaxTotal, api.ErrForm)
	wantError(t, none, 0, 64, api.MaxTotal, api.ErrForm)
}

// P19.2: as soon as the decoder is bad: no sign is learnt any more, though most are wanted still.
func TestBadAtOnce(t *testing.T) {
	for _, b := range []string{"", none[:4], "\x01" + none, Encode(hen, 4, 65536)} {
		n := testing.AllocsPerRun(1, func() { wantError(t, b, 16, api.MaxArena, api.MaxTotal, api.ErrForm) })
		if n > 2000 {
			t.Errorf("%x: room was made %v times", b, n)
		}
	}
}

// P19.2: fewer bytes, to the byte, and more.
func TestFewerAndMore(t *testing.T) {
	r := rand.New(rand.NewSource(4))
	for _, s := range []string{"", "a", "\x00", "\x00\x00", hen, allBytes(), strings.Repeat("a", 999), randomText(r, 300, 256)} {
		for _, order := range []int{0, 1, 4} {
			b := Encode(s, order, 800)
			for i := range len(b) {
				wantError(t, b[:i], order, 800, len(s), api.ErrForm)
			}
			for _, more := range []string{"\x00", "\x01", "\xff", none} {
				wantError(t, b+more, order, 800, len(s), api.ErrForm)
			}
		}
	}
}

// P19.2: a first byte that isn't 0.
func TestFirstByte(t *testing.T) {
	for _, s := range []string{"", "a", hen} {
		b := Encode(s, 2, 500)
		for i := 1; i < 256; i++ {
			wantError(t, string([]byte{byte(i)})+b[1:], 2, 500, len(s), api.ErrForm)
		}
	}
}

// P19.2: a decoder that is Done, but bad: the bytes that lack are 0.
func TestDoneButBad(t *testing.T) {
	for i := range 5 {
		for n := range 5 {
			wantError(t, none[:i], 2, 64, n, api.ErrForm)
		}
	}
	b := Encode("\x00\x00\x00", 0, 64)
	if b != strings.Repeat("\x00", 6) {
		t.Fatalf("%x", b)
	}
	wantText(t, b, 0, 64, "\x00\x00\x00")
	wantError(t, none, 0, 64, 3, api.ErrForm)
}

// P19.2: a decoder that isn't bad, and has read all, but isn't Done.
func TestNotDone(t *testing.T) {
	for _, b := range []string{"\x00\x00\x00\x00\x01", "\x00\x01\x00\x00\x00", "\x00\xff\xff\xff\xff"} {
		wantError(t, b, 2, 64, 0, api.ErrForm)
	}
	b := Encode("ab", 0, 64)
	wantText(t, b, 0, 64, "ab")
	wantError(t, b[:len(b)-1]+"\x01", 0, 64, 2, api.ErrForm)
}

// P19.2: the set has all signs, where any is to be got: by one table, or by several.
func TestAllSigns(t *testing.T) {
	all := allBytes()
	pairs := ""
	for _, s := range []byte(all) {
		pairs += "x" + string([]byte{s})
	}
	for _, c := range []struct {
		text  string
		order int
	}{
		{all, 0},             // behind none: all
		{all + "x", 1},       // behind x: y; behind none: all
		{all + "xy", 16},     // behind xy: z, behind y: z; behind none: all
		{pairs + "x", 1},     // behind x: all
		{pairs + "x", 0},     // behind none: all, with unlike counts
		{all + all + all, 3}, // behind three: one
	} {
		p := newPlainEncoder(c.order, api.MaxArena)
		p.text(c.text)
		wantText(t, p.e.End(), c.order, api.MaxArena, c.text)
		p.sign(noSign)
		wantError(t, p.e.End(), c.order, api.MaxArena, len(c.text)+1, api.ErrForm)
	}
	// One sign less in the tables: it is the one that is left.
	wantBytes(t, all[:255]+"\xff", 0, 1000, plainEncode(all[:255]+"\xff", 0, 1000))
}

// P19.2: other lengths, and bits that are turned, beside the plain form.
func TestOthersAgainstPlain(t *testing.T) {
	r := rand.New(rand.NewSource(5))
	var count [2]int
	for i := range 3000 {
		order, cells := r.Intn(4), 64+r.Intn(200)
		s := randomText(r, r.Intn(60), 1+r.Intn(256))
		b := []byte(Encode(s, order, cells))
		n := len(s)
		if i%2 == 0 {
			n = max(0, n+r.Intn(5)-2)
		} else {
			b[1+r.Intn(len(b)-1)] ^= 1 << r.Intn(8)
		}
		want, wantErr := plainDecode(string(b), order, cells, n)
		if got, e := Decode(string(b), order, cells, n); got != want || e != wantErr {
			t.Fatalf("Decode(%x, %d, %d, %d): %q, %d, want %q, %d", b, order, cells, n, got, e, want, wantErr)
		}
		count[min(int(wantErr), 1)]++
	}
	if count[0] < 100 || count[1] < 100 {
		t.Errorf("%d tell a text, %d don't", count[0], count[1])
	}
}

// P1: any bytes end, and tell what they tell by the plain form.
func TestAnyBytes(t *testing.T) {
	r := rand.New(rand.NewSource(6))
	told := 0
	for range 5000 {
		b := make([]byte, r.Intn(12))
		r.Read(b)
		if len(b) > 0 {
			b[0] = 0
		}
		for i := len(b) - 1; i > 0 && r.Intn(4) > 0; i-- {
			b[i] = 0
		}
		order, cells, n := r.Intn(20)-1, r.Intn(200), r.Intn(20)-1
		want, wantErr := plainDecode(string(b), order, cells, n)
		if got, e := Decode(string(b), order, cells, n); got != want || e != wantErr {
			t.Fatalf("Decode(%x, %d, %d, %d): %q, %d, want %q, %d", b, order, cells, n, got, e, want, wantErr)
		}
		if wantErr == api.OK {
			told++
		}
	}
	if told < 50 {
		t.Error(told)
	}
}

// P19.3: with another order, or other cells, it is another text, or none.
func TestOtherContexts(t *testing.T) {
	s := strings.Repeat(hen+allBytes()[:64], 2)
	b := Encode(s, 3, 300)
	wantText(t, b, 3, 300, s)
	for _, c := range [][2]int{{2, 300}, {4, 300}, {3, 200}, {3, 64}} {
		if got, _ := Decode(b, c[0], c[1], len(s)); got == s {
			t.Errorf("%d, %d: the same text", c[0], c[1])
		}
	}
}

// P19.3: long texts come back.
func TestBack(t *testing.T) {
	r := rand.New(rand.NewSource(7))
	for _, kinds := range []int{1, 5, 256} {
		s := randomText(r, 60000, kinds)
		for _, c := range [][2]int{{0, 64}, {2, 3000}, {4, 65536}, {16, 1 << 18}} {
			wantText(t, Encode(s, c[0], c[1]), c[0], c[1], s)
		}
	}
}
