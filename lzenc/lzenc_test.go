package lzenc

import (
	"encoding/hex"
	"math"
	"math/rand"
	"slices"
	"testing"

	"cassone/api"
	"cassone/lzdec"
	"cassone/model"
	"cassone/packet"
)

// wantEncoded packets.
func wantEncoded(t *testing.T, l []packet.Packet, p model.Params, end bool, want string) {
	t.Helper()
	if got, e := Encode(l, p, end); e != api.OK || got != want {
		t.Errorf("Encode(%v, %v, %v): %x, %d, want %x", l, p, end, got, e, want)
	}
}

// wantError, and nothing else; nor anything of Upto.
func wantError(t *testing.T, l []packet.Packet, p model.Params, want api.Errno) {
	t.Helper()
	for _, end := range []bool{false, true} {
		if got, e := Encode(l, p, end); e != want || got != "" {
			t.Errorf("Encode of %d packets, %v, %v: %x, %d, want %d", len(l), p, end, got, e, want)
		}
	}
	if got, ok := Upto(l, p, math.MaxInt); ok || got != "" {
		t.Errorf("Upto of %d packets, %v: %x, %v", len(l), p, got, ok)
	}
}

// wantBack: packets of the bytes, with the end and without it, are the packets.
func wantBack(t *testing.T, l []packet.Packet, p model.Params) {
	t.Helper()
	text, e := packet.Apply(l, api.MaxTotal)
	if e != api.OK {
		t.Fatalf("%v tell no text", l)
	}
	for n, end := range map[int]bool{-1: true, len(text): false} {
		b, e := Encode(l, p, end)
		if e != api.OK {
			t.Fatalf("Encode of %d packets, %v, %v: %d", len(l), p, end, e)
		}
		if got, e := lzdec.Packets(b, p, n, len(text)); e != api.OK || !slices.Equal(got, l) {
			t.Fatalf("%d packets, %v, %v: %d packets back, %d", len(l), p, end, len(got), e)
		}
		if got, e := lzdec.Decode(b, p, n, len(text)); e != api.OK || got != text {
			t.Fatalf("%d packets, %v, %v: %d bytes back of %d, %d", len(l), p, end, len(got), len(text), e)
		}
	}
}

// hen is a text of all kinds of packets, by parts of which it was once said.
func hen() []packet.Packet {
	return slices.Concat(
		lits("the "), []packet.Packet{match(3, 2)}, lits("n i"), []packet.Packet{rep(0, 2), match(11, 5)},
		lits("at, "), []packet.Packet{match(20, 17), short(), lit(';'), short()}, lits("a cat"))
}

// P12.1: the example, and the end alone.
func TestNoPackets(t *testing.T) {
	for _, p := range goodParams() {
		for _, l := range [][]packet.Packet{nil, {}} {
			wantEncoded(t, l, p, false, "\x00\x00\x00\x00\x00")
			wantEncoded(t, l, p, true, "\x00\x83\xff\xfb\xff\xff\xc0\x00\x00\x00")
		}
	}
}

// P12.1: the bytes that another program made of the same packets.
func TestKnownBytes(t *testing.T) {
	abc := append(lits("abc"), match(3, 21))
	aab := []packet.Packet{lit('a'), rep(0, 30), lit('b')}
	for _, c := range []struct {
		l     []packet.Packet
		p     model.Params
		end   bool
		known string
	}{
		{lits("a"), model.Params{Lc: 3, Pb: 2}, true, "0030c1fbffffffe0000000"},
		{abc, model.Params{}, true, "003099abdefc48d65ffffffce20000"},
		{abc, model.Params{}, false, "003099abdefc42350000"},
		{abc, model.Params{Lc: 4, Pb: 1}, true, "0030988910a99896d4fffffdacb000"},
		{abc, model.Params{Lc: 4, Pb: 1}, false, "0030988910a993a48000"},
		{aab, model.Params{}, true, "0030eea39f6fdfffffffc2000000"},
		{aab, model.Params{}, false, "0030eea39ef0000000"},
		{aab, model.Params{Lp: 4, Pb: 4}, true, "0030ee146283ffffffffc0000000"},
		{aab, model.Params{Lp: 4, Pb: 4}, false, "0030ee1462000000"},
		{hen(), model.Params{Lc: 3, Pb: 2}, true, "003a1a08ce7bcfb381050c918e3b49f934fef7b9feeca8461aed9f2edf40e7ffc2328000"},
		{hen(), model.Params{Lc: 3, Pb: 2}, false, "003a1a08ce7bcfb381050c918e3b49f934fef7b9feeca8461aed9eb2d04d00"},
		{hen(), model.Params{Lp: 4, Pb: 4}, true, "003a1a08a2080237080d3a410c3528d73481f456b9ebdc9fd0df8e6f8203fffff4eb4000"},
		{hen(), model.Params{Lp: 4, Pb: 4}, false, "003a1a08a2080237080d3a410c3528d73481f456b9ebdc9fd0df8e59380000"},
	} {
		b, err := hex.DecodeString(c.known)
		if err != nil {
			t.Fatal(err)
		}
		wantEncoded(t, c.l, c.p, c.end, string(b))
	}
}

// P12.1: lists of all kinds, some of which don't fit, beside the plain form.
func TestBesidePlain(t *testing.T) {
	r := rand.New(rand.NewSource(1))
	var count [2]int
	for i := range 1500 {
		p := goodParams()[i%75]
		l := anyPackets(r, r.Intn(60), 5000)
		if len(l) > 0 && i%2 == 0 {
			l[r.Intn(len(l))] = anyPacket(r)
		}
		for _, end := range []bool{false, true} {
			want, wantErr := plain(l, p, end)
			if got, e := Encode(l, p, end); got != want || e != wantErr {
				t.Fatalf("Encode(%v, %v, %v): %x, %d, want %x, %d", l, p, end, got, e, want, wantErr)
			}
			count[min(int(wantErr), 1)]++
		}
	}
	if count[0] < 100 || count[1] < 100 {
		t.Errorf("%d lists tell a text, %d don't", count[0], count[1])
	}
}

// P12.1: Params that may not be, whatever the packets.
func TestWrongParams(t *testing.T) {
	for _, p := range wrongParams() {
		for _, l := range [][]packet.Packet{nil, hen(), {short()}, {{}}} {
			wantError(t, l, p, api.ErrParam)
		}
	}
}

// P12.1: packets that don't fit, at each place of a list.
func TestNotFitting(t *testing.T) {
	p := model.Params{Lc: 3, Pb: 2}
	for _, x := range []packet.Packet{
		{}, {Kind: 5}, {Kind: -1}, {Kind: math.MinInt}, {Kind: math.MaxInt},
		{Kind: packet.Lit, Dist: 1}, {Kind: packet.Lit, Len: 1}, {Kind: packet.Short, Len: 1}, {Kind: packet.Short, Byte: 1}, {Kind: packet.Match, Dist: 1, Len: 2, Byte: 1},
		match(0, 2), match(-1, 2), match(46, 2), match(math.MinInt, 2), match(math.MaxInt, 2), match(1<<32, 2), match(1<<32+1, 2),
		match(1, 1), match(1, 0), match(1, -2), match(1, 274), match(1, math.MinInt), match(1, math.MaxInt),
		rep(4, 2), rep(-1, 2), rep(math.MinInt, 2), rep(math.MaxInt, 2), rep(0, 1), rep(0, 274), rep(0, math.MinInt), rep(0, math.MaxInt),
	} {
		for i := range len(hen()) + 1 {
			wantError(t, slices.Insert(hen(), i, x), p, api.ErrForm)
		}
	}
	for _, x := range []packet.Packet{short(), match(1, 2), rep(0, 2), rep(3, 2)} {
		wantError(t, append([]packet.Packet{x}, hen()...), p, api.ErrForm)
	}
}

// great packets tell a text of so many bytes, most of them as long as may be.
func great(bytes int) []packet.Packet {
	l := []packet.Packet{lit('a'), lit('b')}
	for have := 2; have < bytes; {
		if n := min(bytes-have, api.MaxLen); n >= api.MinLen {
			l, have = append(l, match(2, n)), have+n
		} else {
			l, have = append(l, short()), have+1
		}
	}
	return l
}

// P12.1: MaxTotal bytes at most; P12.3: so many come back.
func TestMaxTotal(t *testing.T) {
	p := model.Params{Lc: 3, Pb: 2}
	full := great(api.MaxTotal)
	wantBack(t, full, p)
	wantError(t, great(api.MaxTotal+1), p, api.ErrForm)
	for _, x := range []packet.Packet{lit('c'), short(), match(1, 2), rep(0, 273)} {
		wantError(t, append(full[:len(full):len(full)], x), p, api.ErrForm)
	}
	wantError(t, append(great(api.MaxTotal-1), match(1, 2)), p, api.ErrForm)
}

// P12.1: the greatest distance is MaxDist, however long the text.
func TestTooFar(t *testing.T) {
	p := model.Params{Lc: 3, Pb: 2}
	l := great(api.MaxDist + 9)
	wantBack(t, append(l, match(api.MaxDist, 2), lit('x'), rep(0, 3)), p)
	wantError(t, append(l, match(api.MaxDist+1, 2)), p, api.ErrForm)
}

// P12.2: fewer than most bytes, to the byte.
func TestUpto(t *testing.T) {
	p := model.Params{Lc: 3, Pb: 2}
	for _, l := range [][]packet.Packet{nil, {}, lits("a"), hen(), great(9999)} {
		want, e := plain(l, p, false)
		if e != api.OK {
			t.Fatal(e)
		}
		for most := range len(want) + 9 {
			wantUpto(t, l, p, most, want)
		}
		for _, most := range []int{math.MinInt, -len(want), -1, api.MaxTotal, math.MaxInt} {
			wantUpto(t, l, p, most, want)
		}
	}
}

func wantUpto(t *testing.T, l []packet.Packet, p model.Params, most int, want string) {
	t.Helper()
	short := len(want) < most
	if !short {
		want = ""
	}
	if got, ok := Upto(l, p, most); got != want || ok != short {
		t.Errorf("Upto of %d packets, %d: %x, %v, want %x, %v", len(l), most, got, ok, want, short)
	}
}

// P12.3: by all Params, all kinds of packets.
func TestBack(t *testing.T) {
	r := rand.New(rand.NewSource(2))
	for _, p := range goodParams() {
		wantBack(t, nil, p)
		wantBack(t, hen(), p)
		for range 4 {
			wantBack(t, anyPackets(r, 200, 9000), p)
		}
	}
}

// P12.3: bytes of 0 are told by so few bits that texts of some lengths have the same bytes; each comes back all the same.
func TestBackOfZeros(t *testing.T) {
	p := model.Params{Lc: 3, Pb: 2}
	seen, same := map[string]bool{}, 0
	for n := range 600 {
		l := lits(string(make([]byte, n)))
		wantBack(t, l, p)
		b, _ := Encode(l, p, false)
		if seen[b] {
			same++
		}
		seen[b] = true
	}
	if same == 0 {
		t.Error("no two have the same bytes")
	}
}

// Rules: the list stays as it is, with the room behind it, and what is told hangs on it alone.
func TestListStays(t *testing.T) {
	p := model.Params{Lc: 3, Pb: 2}
	room := append(hen(), lits("behind")...)
	before := slices.Clone(room)
	l := room[:len(hen())]
	want, _ := plain(hen(), p, true)
	wantEncoded(t, l, p, true, want)
	Upto(l, p, 9)
	if !slices.Equal(room, before) {
		t.Errorf("%v, want %v", room, before)
	}
	Encode([]packet.Packet{lit('x'), {}}, p, true)
	wantEncoded(t, l, p, true, want)
}
