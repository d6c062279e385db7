package archive

import (
	"math"
	"math/rand"
	"slices"
	"strings"
	"testing"

	"cassone/api"
	"cassone/index"
	"cassone/method"
)

// What a reading had called where it ended early.
var (
	none       = Calls{}
	looked     = Calls{Keys: 1, Sums: 1}
	deciphered = Calls{Keys: 1, Sums: 1, Ciphers: 1}
)

// great limits: all that may be is within.
var great = Limits{Power: api.MaxRounds, Bytes: api.MaxTotal}

// wantError, with the calls beside it, and nothing else.
func wantError(t *testing.T, b, password string, m Limits, calls Calls, want api.Errno) {
	t.Helper()
	if l, c, e := Unpack(b, password, m); len(l) != 0 || c != calls || e != want {
		t.Errorf("Unpack(%d bytes %.80x, %q, %+v): %d entries, %+v, %d, want %+v, %d", len(b), b, password, m, len(l), c, e, calls, want)
	}
}

// good is an archive of three entries, under the password p, of Power 1.
func good() string {
	items, _ := index.Encode(three())
	text := index.Text(three())
	return sealed(bodyWith(items, storedBlock(text[:50])+storedBlock(text[50:])), "p")
}

// turned by a bit.
func turned(b string, at, bit int) string {
	c := []byte(b)
	c[at] ^= 1 << bit
	return string(c)
}

// P28.2: fewer than 70 bytes, whatever else is wrong.
func TestTrunc(t *testing.T) {
	whole := sealed("", "p")
	for _, b := range []string{good(), whole, "X" + whole, strings.Repeat("\x00", 70), strings.Repeat("\xff", 70), whole[:5] + "\xff" + whole[6:]} {
		for n := range 70 {
			for _, m := range []Limits{great, {math.MinInt, math.MinInt}, {}} {
				wantError(t, b[:n], "p", m, none, api.ErrTrunc)
			}
		}
	}
	wantError(t, whole, "p", great, deciphered, api.ErrForm)
	// From 70 on another error is told.
	wantError(t, good()[:70], "p", great, looked, api.ErrAuth)
	wantError(t, strings.Repeat("\x00", 70), "p", great, none, api.ErrMagic)
}

// P28.2: another front, though the seal be right, or whatever else is wrong.
func TestMagic(t *testing.T) {
	b := good()
	for at := range 5 {
		for bit := range 8 {
			front := turned(b, at, bit)
			for _, m := range []Limits{great, {math.MinInt, math.MinInt}, {0, 1000}} {
				wantError(t, front, "p", m, none, api.ErrMagic)
				wantError(t, front[:5]+"\xff"+front[6:], "q", m, none, api.ErrMagic)
				wantError(t, front[:70], "p", m, none, api.ErrMagic)
			}
			items := indexWith(3)
			wantError(t, parts{front: front[:5], power: 1, password: "p", body: bodyWith(items, storedBlock("xyz"))}.made(), "p", great, none, api.ErrMagic)
		}
	}
	for _, front := range []string{"csne\x01", "CSNE\x00", "CSNE\x02", "CSNE1", "\x01CSNE", "CSN\x01E", "ENSC\x01"} {
		wantError(t, front+b[5:], "p", great, none, api.ErrMagic)
	}
	wantError(t, " "+b, "p", great, none, api.ErrMagic)
	wantError(t, b[1:], "p", great, none, api.ErrMagic)
}

// P28.2: a Power above the limit, though the seal be right, or whatever else is wrong.
func TestPowerLimit(t *testing.T) {
	for power := range 9 {
		b := parts{front: "CSNE\x01", power: power, password: "p", body: bodyWith(indexWith(3), storedBlock("xyz"))}.made()
		for _, limit := range []int{math.MinInt, -256, -1, 0, 1, 2, 3, 4, 5, 6, 7, 8, 9, 20, 21, 255, 1 << 32, math.MaxInt} {
			if limit < power {
				wantError(t, b, "p", Limits{limit, 3}, none, api.ErrLimit)
				wantError(t, b, "q", Limits{limit, 3}, none, api.ErrLimit)
				wantError(t, b[:70], "p", Limits{limit, -1}, none, api.ErrLimit)
				continue
			}
			l, c, e := Unpack(b, "p", Limits{limit, 3})
			if !slices.Equal(l, []index.Entry{{Name: "a", Data: "xyz"}}) || c != allCalls || e != api.OK {
				t.Errorf("Power %d, limit %d: %q, %+v, %d", power, limit, l, c, e)
			}
		}
	}
}

// P28.2: a Power above MaxRounds, whatever the limit: no key is derived.
func TestPowerAbove(t *testing.T) {
	b := good()
	for power := 21; power < 256; power++ {
		for _, m := range []Limits{{power - 1, 1000}, {power, 1000}, {255, 1000}, {math.MaxInt, math.MaxInt}, {20, 1000}, {-1, -1}} {
			wantError(t, b[:5]+string([]byte{byte(power)})+b[6:], "p", m, none, api.ErrLimit)
		}
	}
	// Though layer 26 takes it for MaxRounds, and the seal be right by that.
	h := b[:5] + "\x15" + b[6:38]
	_, sum := plainKeys("p", [16]byte([]byte(h[6:22])), 20)
	wantError(t, h+plainKeyed(sum, h), "p", Limits{21, 1000}, none, api.ErrLimit)
}

// P28.2, P28.3: any bit turned behind the front: nothing is deciphered or read, whatever the limits.
func TestTurned(t *testing.T) {
	b := good()
	wantUnpack(t, b, "p", three())
	for at := 6; at < len(b); at++ {
		for bit := range 8 {
			wantError(t, turned(b, at, bit), "p", great, looked, api.ErrAuth)
		}
		wantError(t, turned(b, at, at%8), "p", Limits{1, -1}, looked, api.ErrAuth)
	}
	// Of the byte Power: those that are within the limits.
	for _, power := range []byte{0, 2, 3, 9} {
		wantError(t, b[:5]+string([]byte{power})+b[6:], "p", great, looked, api.ErrAuth)
	}
}

// P28.2, P28.3: another password, bytes that lack, or more of them.
func TestAuth(t *testing.T) {
	b := good()
	for _, password := range []string{"", "P", "q", "p ", " p", "pp", "p\x00", "\x00p", strings.Repeat("p", 100)} {
		wantError(t, b, password, great, looked, api.ErrAuth)
		wantError(t, b, password, Limits{1, math.MinInt}, looked, api.ErrAuth)
	}
	for n := 70; n < len(b); n++ {
		wantError(t, b[:n], "p", great, looked, api.ErrAuth)
		wantError(t, b[:n-32]+b[len(b)-32:], "p", great, looked, api.ErrAuth)
	}
	for _, more := range []string{"\x00", "x", b, b[len(b)-32:]} {
		wantError(t, b+more, "p", great, looked, api.ErrAuth)
		wantError(t, b[:38]+more+b[38:], "p", great, looked, api.ErrAuth)
		wantError(t, b[:len(b)-32]+more+b[len(b)-32:], "p", great, looked, api.ErrAuth)
	}
	wantError(t, b[:len(b)-32]+strings.Repeat("\x00", 32), "p", great, looked, api.ErrAuth)
}

// P28.2: seals of something else than of head and body as they stand, under another key, or none.
func TestOtherSeals(t *testing.T) {
	b := good()
	rest := b[:len(b)-32]
	cipher, sum := plainKeys("p", [16]byte([]byte(b[6:22])), 1)
	body := plainTurned(cipher, [16]byte([]byte(b[22:38])), rest[38:])
	if rest+plainKeyed(sum, rest) != b {
		t.Fatal("no seal")
	}
	for _, seal := range []string{
		plainKeyed(cipher, rest),
		plainKeyed("", rest),
		plainKeyed("p", rest),
		plainKeyed(sum, rest[38:]),
		plainKeyed(sum, rest[:38]),
		plainKeyed(sum, rest[:38]+body),
		plainKeyed(sum, rest[1:]),
		plainKeyed(sum, b),
		plainSum(rest),
		plainSum(sum + rest),
	} {
		wantError(t, rest+seal, "p", great, looked, api.ErrAuth)
	}
	// That of another archive, under the same password.
	other := sealed(bodyWith(indexWith(), ""), "p")
	wantError(t, rest+other[len(other)-32:], "p", great, looked, api.ErrAuth)
}

// P28.2: a body of fewer than four bytes, or than it says, whatever the limit.
func TestBodyTrunc(t *testing.T) {
	body := bodyWith(indexWith(3, 2), storedBlock("xyz12"))
	for _, m := range []Limits{great, {1, 0}, {1, -1}, {1, math.MinInt}} {
		for n := range 4 + 18 {
			wantError(t, sealed(body[:n], "p"), "p", m, deciphered, api.ErrForm)
			wantError(t, sealed(strings.Repeat("\x00", min(n, 3)), "p"), "p", m, deciphered, api.ErrForm)
		}
		for _, n := range []int{1, 18, 19, 255, 256, 1 << 16, 1 << 24, 1<<31 - 1, 1 << 31, 1<<32 - 4, 1<<32 - 1} {
			wantError(t, sealed(fourBytes(n), "p"), "p", m, deciphered, api.ErrForm)
			wantError(t, sealed(fourBytes(n)+strings.Repeat("\x00", min(n, 300)-1), "p"), "p", m, deciphered, api.ErrForm)
		}
		all := len(body) - 4
		wantError(t, sealed(fourBytes(all+1)+body[4:], "p"), "p", m, deciphered, api.ErrForm)
		wantError(t, sealed(fourBytes(all)+body[4:], "p"), "p", m, deciphered, api.ErrForm)
	}
	wantUnpack(t, sealed(body, "p"), "p", []index.Entry{{Name: "a", Data: "xyz"}, {Name: "b", Data: "12"}})
}

// P28.2: bytes that are no index, whatever the limit, and what stands behind them.
func TestNoIndex(t *testing.T) {
	one := indexWith(3)
	for _, items := range []string{
		"",
		"\x00",
		one[:len(one)-1],
		one + "\x00",
		"\x02" + one[1:],
		"\x00" + one[1:],
		indexWith(api.MaxTotal + 1),
		indexWith(api.MaxTotal, 3),
		indexWith(1<<32-1, 4),
		fourBytes(api.MaxEntries+1) + strings.Repeat("\x00", 6*(api.MaxEntries+1)),
		fourBytes(1) + "\x01\x04" + strings.Repeat("n", api.MaxName+1) + fourBytes(3),
	} {
		for _, m := range []Limits{great, {math.MaxInt, math.MaxInt}, {1, 0}, {1, -1}} {
			for _, blocks := range []string{"", storedBlock("xyz"), "no block"} {
				wantError(t, sealed(bodyWith(items, blocks), "p"), "p", m, deciphered, api.ErrForm)
			}
		}
	}
}

// P28.2: more bytes than the limit, whatever the blocks: they aren't read.
func TestBytesLimit(t *testing.T) {
	for _, c := range []struct {
		sizes []int
		total int
	}{{nil, 0}, {[]int{0, 0}, 0}, {[]int{1}, 1}, {[]int{3, 0, 7}, 10}, {[]int{100, 200}, 300}, {[]int{api.MaxTotal}, api.MaxTotal}, {[]int{1, api.MaxTotal - 1}, api.MaxTotal}} {
		for _, blocks := range []string{"", "no block", storedBlock(strings.Repeat("x", min(c.total, 300)))} {
			b := sealed(bodyWith(indexWith(c.sizes...), blocks), "p")
			for _, most := range []int{math.MinInt, -1, c.total - 1} {
				wantError(t, b, "p", Limits{1, most}, deciphered, api.ErrLimit)
			}
			for _, most := range []int{c.total, c.total + 1, math.MaxInt} {
				if _, calls, e := Unpack(b, "p", Limits{1, most}); calls != allCalls || e == api.ErrLimit {
					t.Errorf("%v, at most %d: %+v, %d", c.sizes, most, calls, e)
				}
			}
		}
	}
}

// P28.2: what layer 22 says of the blocks, but ErrForm for ErrTrunc.
func TestBlocks(t *testing.T) {
	ten := storedBlock("0123456789")
	for _, c := range []struct {
		blocks string
		want   api.Errno
	}{
		{ten, api.OK},
		{storedBlock("0123") + storedBlock("456789"), api.OK},
		// They lack.
		{"", api.ErrForm},
		{"\x00", api.ErrForm},
		{ten[:12], api.ErrForm},
		{ten[:13], api.ErrForm},
		{ten[:22], api.ErrForm},
		{storedBlock("012345678"), api.ErrForm},
		{storedBlock("0123") + storedBlock("45678"), api.ErrForm},
		{storedBlock("0123") + storedBlock("456789")[:18], api.ErrForm},
		// There are more.
		{ten + "\x00", api.ErrForm},
		{ten + ten, api.ErrForm},
		{storedBlock("0123456789 "), api.ErrForm},
		{ten + storedBlock(""), api.ErrForm},
		// They are none.
		{storedBlock("") + ten, api.ErrForm},
		{"\x03" + ten[1:], api.ErrForm},
		{"\x01" + ten[1:], api.ErrForm},
		{strings.Repeat("\xff", 30), api.ErrForm},
		// They have other sums.
		{turned(ten, 9, 0), api.ErrSum},
		{turned(ten, 13, 0), api.ErrSum},
		{turned(ten, 22, 7), api.ErrSum},
		{turned(ten, 22, 7) + "\x00", api.ErrSum},
		{storedBlock("0123") + turned(storedBlock("456789"), 15, 1), api.ErrSum},
		{turned(storedBlock("0123"), 15, 1), api.ErrSum},
	} {
		for _, sizes := range [][]int{{10}, {3, 7}, {0, 10, 0}} {
			b := sealed(bodyWith(indexWith(sizes...), c.blocks), "p")
			if c.want != api.OK {
				wantError(t, b, "p", Limits{1, 10}, allCalls, c.want)
				wantError(t, b, "p", great, allCalls, c.want)
				continue
			}
			var l []index.Entry
			s := "0123456789"
			for i, n := range sizes {
				l = append(l, index.Entry{Name: string(rune('a' + i)), Data: s[:n]})
				s = s[n:]
			}
			wantUnpack(t, b, "p", l)
		}
	}
}

// P28.2: where there are no bytes, no block may stand; layer 22 is asked nevertheless.
func TestNoBlocks(t *testing.T) {
	for _, sizes := range [][]int{nil, {0}, {0, 0, 0}} {
		items := indexWith(sizes...)
		for _, blocks := range []string{"\x00", storedBlock(""), storedBlock("x"), "x"} {
			wantError(t, sealed(bodyWith(items, blocks), "p"), "p", great, allCalls, api.ErrForm)
		}
		var l []index.Entry
		for i := range sizes {
			l = append(l, index.Entry{Name: string(rune('a' + i))})
		}
		wantUnpack(t, sealed(bodyWith(items, ""), "p"), "p", l)
	}
}

// P1, P28.2: bytes of all kinds end, beside the plain form.
func TestUnpackAgainstPlain(t *testing.T) {
	r := rand.New(rand.NewSource(6))
	met := map[api.Errno]int{}
	for range 4000 {
		b, m := anyArchive(r)
		want, wantC, wantE := plainUnpack(b, "p", m)
		met[wantE]++
		if l, c, e := Unpack(b, "p", m); !slices.Equal(l, want) || c != wantC || e != wantE {
			t.Fatalf("Unpack(%x, %+v): %q, %+v, %d, want %q, %+v, %d", b, m, l, c, e, want, wantC, wantE)
		}
	}
	for _, e := range []api.Errno{api.OK, api.ErrTrunc, api.ErrMagic, api.ErrLimit, api.ErrAuth, api.ErrForm, api.ErrSum} {
		if met[e] < 50 {
			t.Error(met)
		}
	}
}

// anyArchive, most of which are wrong somewhere, and limits.
func anyArchive(r *rand.Rand) (string, Limits) {
	l := anyEntries(r, r.Intn(5), 40)
	items, _ := index.Encode(l)
	body := bodyWith(items, "")
	for s := index.Text(l); s != ""; {
		n := min(len(s), 1+r.Intn(50))
		body, s = body+storedBlock(s[:n]), s[n:]
	}
	switch r.Intn(5) {
	case 0:
		body = body[:r.Intn(len(body))]
	case 1:
		body = turned(body, r.Intn(len(body)), r.Intn(8))
	case 2:
		body += anyText(r, r.Intn(20))
	}
	b := parts{front: "CSNE\x01", power: r.Intn(4), salt: anyBytes(r), iv: anyBytes(r), password: "p", body: body}.made()
	switch r.Intn(8) {
	case 0:
		b = turned(b, r.Intn(len(b)), r.Intn(8))
	case 1:
		b = turned(b, r.Intn(6), r.Intn(8))
	case 2:
		b = b[:r.Intn(len(b))]
	case 3:
		b += anyText(r, r.Intn(5))
	}
	return b, Limits{r.Intn(8), len(index.Text(l)) + r.Intn(100)*(r.Intn(4)-1)}
}

// P28.2: an archive that was made by Pack, under limits that are too small.
func TestPackedLimits(t *testing.T) {
	o := common()
	o.Method, o.Power = method.Common(), 3
	b, e := Pack(three(), "p", o)
	if e != api.OK {
		t.Fatal(e)
	}
	n := len(index.Text(three()))
	wantError(t, b, "p", Limits{2, n}, none, api.ErrLimit)
	wantError(t, b, "p", Limits{3, n - 1}, deciphered, api.ErrLimit)
	wantError(t, b, "p", Limits{2, n - 1}, none, api.ErrLimit)
	wantError(t, b, "P", Limits{3, n - 1}, looked, api.ErrAuth)
	wantUnpack(t, b, "p", three())
}
