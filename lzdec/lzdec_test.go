package lzdec

import (
	"encoding/hex"
	"math"
	"math/rand"
	"slices"
	"strings"
	"testing"

	"cassone/api"
	"cassone/model"
	"cassone/packet"
)

// wantPackets of bytes: these, and the text that they tell.
func wantPackets(t *testing.T, s string, p model.Params, n, most int, want []packet.Packet) {
	t.Helper()
	text, e := packet.Apply(want, api.MaxTotal)
	if e != api.OK {
		t.Fatalf("the packets %v tell no text", want)
	}
	if l, e := Packets(s, p, n, most); e != api.OK || !slices.Equal(l, want) {
		t.Errorf("Packets(%x, %v, %d, %d): %v, %d, want %v", s, p, n, most, l, e, want)
	}
	if got, e := Decode(s, p, n, most); e != api.OK || got != text {
		t.Errorf("Decode(%x, %v, %d, %d): %q, %d, want %q", s, p, n, most, got, e, text)
	}
}

// wantError, and nothing else.
func wantError(t *testing.T, s string, p model.Params, n, most int, want api.Errno) {
	t.Helper()
	if l, e := Packets(s, p, n, most); e != want || len(l) != 0 {
		t.Errorf("Packets(%x, %v, %d, %d): %v, %d, want %d", s, p, n, most, l, e, want)
	}
	if got, e := Decode(s, p, n, most); e != want || got != "" {
		t.Errorf("Decode(%x, %v, %d, %d): %q, %d, want %d", s, p, n, most, got, e, want)
	}
}

// hen is a text of all kinds of packets, by parts of which it was once said.
func hen() []packet.Packet {
	return slices.Concat(
		lits("the "), []packet.Packet{match(3, 2)}, lits("n i"), []packet.Packet{rep(0, 2), match(11, 5)},
		lits("at, "), []packet.Packet{match(20, 17), short(), lit(';'), short()}, lits("a cat"))
}

const henText = "the hen in the hat, the hen in the hat; a cat"

// P11.1: the example, and texts without bytes by all Params.
func TestNoPackets(t *testing.T) {
	for _, p := range goodParams() {
		for _, most := range []int{0, 1, 99, math.MaxInt} {
			wantPackets(t, "\x00\x00\x00\x00\x00", p, 0, most, nil)
			wantPackets(t, "\x00\x83\xff\xfb\xff\xff\xc0\x00\x00\x00", p, -1, most, nil)
		}
	}
}

// P11.1, P11.2: bytes that another program made, with the end and without it.
func TestKnownBytes(t *testing.T) {
	abc := append(lits("abc"), match(3, 21))
	aab := []packet.Packet{lit('a'), rep(0, 30), lit('b')}
	for _, c := range []struct {
		known string
		p     model.Params
		n     int
		want  []packet.Packet
	}{
		{"0030c1fbffffffe0000000", model.Params{Lc: 3, Pb: 2}, -1, lits("a")},
		{"003099abdefc48d65ffffffce20000", model.Params{}, -1, abc},
		{"003099abdefc42350000", model.Params{}, 24, abc},
		{"0030988910a99896d4fffffdacb000", model.Params{Lc: 4, Pb: 1}, -1, abc},
		{"0030988910a993a48000", model.Params{Lc: 4, Pb: 1}, 24, abc},
		{"0030eea39f6fdfffffffc2000000", model.Params{}, -1, aab},
		{"0030eea39ef0000000", model.Params{}, 32, aab},
		{"0030ee146283ffffffffc0000000", model.Params{Lp: 4, Pb: 4}, -1, aab},
		{"0030ee1462000000", model.Params{Lp: 4, Pb: 4}, 32, aab},
		{"003a1a08ce7bcfb381050c918e3b49f934fef7b9feeca8461aed9f2edf40e7ffc2328000", model.Params{Lc: 3, Pb: 2}, -1, hen()},
		{"003a1a08ce7bcfb381050c918e3b49f934fef7b9feeca8461aed9eb2d04d00", model.Params{Lc: 3, Pb: 2}, 45, hen()},
		{"003a1a08a2080237080d3a410c3528d73481f456b9ebdc9fd0df8e6f8203fffff4eb4000", model.Params{Lp: 4, Pb: 4}, -1, hen()},
		{"003a1a08a2080237080d3a410c3528d73481f456b9ebdc9fd0df8e59380000", model.Params{Lp: 4, Pb: 4}, 45, hen()},
	} {
		b, err := hex.DecodeString(c.known)
		if err != nil {
			t.Fatal(err)
		}
		for _, most := range []int{max(c.n, 45), 99, math.MaxInt} {
			wantPackets(t, string(b), c.p, c.n, most, c.want)
		}
	}
	if s, _ := packet.Apply(hen(), 99); s != henText {
		t.Error(s)
	}
}

// P11.1, P11.2: what was put is told, by all Params, with the end or of so many bytes; and each n below 0 is the same.
func TestAllParams(t *testing.T) {
	r := rand.New(rand.NewSource(1))
	for _, p := range goodParams() {
		l := anyPackets(r, 200, 9000)
		s, _ := packet.Apply(l, 9000)
		for _, most := range []int{len(s), 9000, math.MaxInt} {
			wantPackets(t, bytesOf(t, l, p, false), p, len(s), most, l)
			for _, n := range []int{-1, -2, math.MinInt} {
				wantPackets(t, bytesOf(t, l, p, true), p, n, most, l)
			}
		}
	}
}

// P11.1: the errors of what is handed in, in their order: before any byte is looked at.
func TestParamAndLimit(t *testing.T) {
	good := model.Params{Lc: 3, Pb: 2}
	empty, text := "\x00\x00\x00\x00\x00", bytesOf(t, hen(), good, false)
	for _, s := range []string{empty, text, "", "\x01"} {
		for _, p := range []model.Params{
			{Lc: -1}, {Lp: -1}, {Pb: -1}, {Lc: 5}, {Lp: 5}, {Pb: 5}, {Lc: 3, Lp: 2}, {Lc: math.MaxInt, Lp: math.MaxInt}, {Lc: math.MinInt},
		} {
			for _, n := range []int{math.MinInt, -1, 0, 45, 46, math.MaxInt} {
				wantError(t, s, p, n, 45, api.ErrParam)
				wantError(t, s, p, n, -1, api.ErrParam)
			}
		}
		for _, most := range []int{-1, -2, math.MinInt} {
			for _, n := range []int{math.MinInt, -3, -1, 0, 45, math.MaxInt} {
				wantError(t, s, good, n, most, api.ErrParam)
			}
		}
		for _, c := range [][2]int{{1, 0}, {46, 45}, {45, 44}, {math.MaxInt, math.MaxInt - 1}, {math.MaxInt, 0}} {
			wantError(t, s, good, c[0], c[1], api.ErrLimit)
		}
	}
	wantPackets(t, text, good, 45, 45, hen())
}

// P11.1: how many bytes the text has is what n says, to the byte.
func TestOtherLength(t *testing.T) {
	p := model.Params{Lc: 3, Pb: 2}
	for _, l := range [][]packet.Packet{hen(), {lit('a'), rep(0, 5)}, {lit('a'), match(1, 273)}} {
		text, _ := packet.Apply(l, 999)
		b := bytesOf(t, l, p, false)
		for n := range len(text) + 9 {
			if n == len(text) {
				wantPackets(t, b, p, n, 999, l)
			} else {
				wantError(t, b, p, n, 999, api.ErrForm)
			}
		}
		// Without an end there is none.
		wantError(t, b, p, -1, 999, api.ErrForm)
	}
}

// P11.1: up to the end there may be most bytes, and none more.
func TestMost(t *testing.T) {
	p := model.Params{Lc: 3, Pb: 2}
	for _, l := range [][]packet.Packet{hen(), lits("abc"), {lit('a'), short(), short()}, {lit('a'), rep(3, 5)}, {lit('a'), match(1, 273)}} {
		text, _ := packet.Apply(l, 999)
		b := bytesOf(t, l, p, true)
		for most := range len(text) + 9 {
			if most >= len(text) {
				wantPackets(t, b, p, -1, most, l)
			} else {
				wantError(t, b, p, -1, most, api.ErrForm)
			}
		}
	}
}

// P11.1: the end may not come where n isn't below 0: neither ahead of the n bytes, nor behind them.
func TestEndTooMany(t *testing.T) {
	p := model.Params{Lc: 3, Pb: 2}
	for _, l := range [][]packet.Packet{nil, lits("a"), hen()} {
		text, _ := packet.Apply(l, 99)
		b := bytesOf(t, l, p, true)
		wantPackets(t, b, p, -1, 99, l)
		for n := range len(text) + 9 {
			wantError(t, b, p, n, 99, api.ErrForm)
		}
	}
}

// P11.1: bits of packets that don't fit, though the end is told behind them.
func TestNotFitting(t *testing.T) {
	const (
		end = " other=1 again=0 m8=0 m.1=0 m.2=0 m.4=0 0s1=1 0s3=1 0s7=1 0s15=1 0s31=1 0s63=1" +
			" =1 =1 =1 =1 =1 =1 =1 =1 =1 =1 =1 =1 =1 =1 =1 =1 =1 =1 =1 =1 =1 =1 =1 =1 =1 =1 last1=1 last3=1 last7=1 last15=1"
		// With Pb 4 no probability of this a counts for what is behind it.
		a = "lit=0 b1=0 b2=1 b5=1 b11=0 b22=0 b44=0 b88=0 b176=1"
	)
	p := model.Params{Pb: 4}
	wantPackets(t, handBytes(end), p, -1, 99, nil)
	wantPackets(t, handBytes(a+end), p, -1, 99, lits("a"))
	for _, c := range []struct{ name, bits string }{
		{"short", " other=1 again=1 second=0 more=0"},
		{"rep 0, 2", " other=1 again=1 second=0 more=1 r8=0 r.1=0 r.2=0 r.4=0"},
		{"rep 1, 3", " other=1 again=1 second=1 third=0 r8=0 r.1=0 r.2=0 r.4=1"},
		{"rep 3, 2", " other=1 again=1 second=1 third=1 fourth=1 r8=0 r.1=0 r.2=0 r.4=0"},
		{"match 1, 2", " other=1 again=0 m8=0 m.1=0 m.2=0 m.4=0 0s1=0 0s2=0 0s4=0 0s8=0 0s16=0 0s32=0"},
	} {
		b := handBytes(c.bits + end)
		t.Log(c.name, "behind nothing")
		wantError(t, b, p, -1, 99, api.ErrForm)
		wantError(t, b, p, 2, 99, api.ErrForm)
	}
	for _, c := range []struct{ name, bits string }{
		{"match 2, 2", " other=1 again=0 m8=0 m.1=0 m.2=0 m.4=0 0s1=0 0s2=0 0s4=0 0s8=0 0s16=0 0s32=1"},
		{"match 2^32 - 7, 2", strings.Replace(end, "last1=1 last3=1 last7=1 last15=1", "last1=0 last2=0 last4=0 last8=1", 1)},
		{"as the end, but 3", " other=1 again=0 m8=0 m.1=0 m.2=0 m.4=1 1s1=1 1s3=1 1s7=1 1s15=1 1s31=1 1s63=1" + end[strings.Index(end, " =1"):]},
	} {
		b := handBytes(a + c.bits + end)
		t.Log(c.name, "behind an a")
		wantError(t, b, p, -1, 99, api.ErrForm)
		wantError(t, b, p, 3, 99, api.ErrForm)
	}
}

// P11.1: bytes that lack, also where they would be 0.
func TestTooFewBytes(t *testing.T) {
	for _, p := range []model.Params{{}, {Lc: 3, Pb: 2}, {Lp: 4, Pb: 4}} {
		for _, l := range [][]packet.Packet{nil, lits("a"), hen(), {lit('a'), rep(0, 30), lit('b')}} {
			text, _ := packet.Apply(l, 99)
			for n, b := range map[int]string{len(text): bytesOf(t, l, p, false), -1: bytesOf(t, l, p, true)} {
				for i := range len(b) {
					wantError(t, b[:i], p, n, 99, api.ErrForm)
				}
			}
		}
	}
}

// P11.1: a first byte that isn't 0, also where nothing is to be got.
func TestFirstByte(t *testing.T) {
	p := model.Params{Lc: 3, Pb: 2}
	for _, first := range []string{"\x01", "\x80", "\xff"} {
		wantError(t, first+"\x00\x00\x00\x00", p, 0, 99, api.ErrForm)
		wantError(t, first+bytesOf(t, hen(), p, false)[1:], p, 45, 99, api.ErrForm)
		wantError(t, first+bytesOf(t, hen(), p, true)[1:], p, -1, 99, api.ErrForm)
	}
}

// P11.1: behind all packets the decoder is Done: no byte is left, and the last ones aren't others.
func TestNotDone(t *testing.T) {
	p := model.Params{Lc: 3, Pb: 2}
	for _, l := range [][]packet.Packet{nil, lits("a"), hen()} {
		text, _ := packet.Apply(l, 99)
		for n, b := range map[int]string{len(text): bytesOf(t, l, p, false), -1: bytesOf(t, l, p, true)} {
			for _, more := range []string{"\x00", "\x01", "\x00\x00\x00\x00\x00", b} {
				wantError(t, b+more, p, n, 99, api.ErrForm)
			}
			last := len(b) - 1
			for turn := 1; turn < 256; turn++ {
				wantError(t, b[:last]+string([]byte{b[last] ^ byte(turn)}), p, n, 99, api.ErrForm)
			}
		}
	}
}

// limited bits have so many packets, and are bad then.
type limited struct{ packets, asked int }

func (l *limited) packet(m *model.Model) (p packet.Packet, end, ok bool) {
	l.asked++
	return lit('a'), false, true
}

func (l *limited) Done() bool { return true }

func (l *limited) Bad() bool { return l.asked >= l.packets }

// P11.1: bad bits end it at once, behind the packet by which they got so.
func TestBadAtOnce(t *testing.T) {
	for packets := range 9 {
		for _, n := range []int{-1, 20} {
			b, told := &limited{packets: packets}, 0
			ok := newDecoding(b, model.Params{}, n, math.MaxInt).run(func(packet.Packet) { told++ })
			if ok || b.asked != packets || told > packets {
				t.Errorf("bad behind %d packets: %v, %d were asked for", packets, ok, b.asked)
			}
		}
	}
}

// P1: so all calls end, however many bytes are asked for.
func TestNoEnd(t *testing.T) {
	for _, b := range []string{"", "\x00", "\x00\x00\x00\x00\x00", "\x00\xff\xff\xff\xff", "\x00\xff\xff\xff\xff\xff\xff\xff\xff", "\x00\x12\x34\x56\x78", "\xff\xff\xff\xff\xff"} {
		for _, p := range []model.Params{{}, {Lc: 3, Pb: 2}, {Lp: 4, Pb: 4}} {
			for _, n := range []int{-1, math.MinInt, 1 << 24, math.MaxInt} {
				wantError(t, b, p, n, math.MaxInt, api.ErrForm)
			}
		}
	}
}

// P11.1, P11.2: bytes that nobody put, and such as were put and then changed, beside the plain form.
func TestBesidePlain(t *testing.T) {
	r := rand.New(rand.NewSource(2))
	good := 0
	for i := range 6000 {
		p := goodParams()[r.Intn(75)]
		l := anyPackets(r, r.Intn(20), 400)
		text, _ := packet.Apply(l, 400)
		n := len(text)
		if i%2 == 0 {
			n = -1
		}
		b := []byte(bytesOf(t, l, p, n < 0))
		for range r.Intn(3) {
			b[r.Intn(len(b))] ^= byte(1 << r.Intn(8))
		}
		b = b[:len(b)-r.Intn(8)/7]
		if n >= 0 {
			n += r.Intn(8) / 7
		}
		most := len(text) + r.Intn(4) - 1
		want, wantText, wantErr := plain(string(b), p, n, most)
		got, e := Packets(string(b), p, n, most)
		if !slices.Equal(got, want) || e != wantErr {
			t.Fatalf("Packets(%x, %v, %d, %d): %v, %d, want %v, %d", b, p, n, most, got, e, want, wantErr)
		}
		if got, e := Decode(string(b), p, n, most); got != wantText || e != wantErr {
			t.Fatalf("Decode(%x, %v, %d, %d): %q, %d, want %q, %d", b, p, n, most, got, e, wantText, wantErr)
		}
		if e == api.OK {
			good++
		}
	}
	if good < 500 || good > 5500 {
		t.Errorf("%d of 6000 were right", good)
	}
}

// P11.1: a great text: far matches, and many times MaxLen.
func TestGreatText(t *testing.T) {
	p := model.Params{Lc: 3, Pb: 2}
	l := lits("abcdefg")
	for range api.MaxDist/273 + 1 {
		l = append(l, match(7, 273))
	}
	l = append(l, match(api.MaxDist, 273), lit('x'), rep(0, 2), rep(1, 273), lit('y'))
	text, _ := packet.Apply(l, api.MaxTotal)
	for n, b := range map[int]string{len(text): bytesOf(t, l, p, false), -1: bytesOf(t, l, p, true)} {
		if got, e := Packets(b, p, n, len(text)); e != api.OK || !slices.Equal(got, l) {
			t.Errorf("Packets, %d: %d of %d, %d", n, len(got), len(l), e)
		}
		if got, e := Decode(b, p, n, len(text)); e != api.OK || got != text {
			t.Errorf("Decode, %d: %d of %d bytes, %d", n, len(got), len(text), e)
		}
		if _, e := Decode(b, p, -1, len(text)-1); e != api.ErrForm {
			t.Errorf("no room, %d: %d", n, e)
		}
	}
}

// Rules: an answer is new memory, and hangs on what was handed in alone.
func TestNewMemory(t *testing.T) {
	p := model.Params{Lc: 3, Pb: 2}
	b := bytesOf(t, hen(), p, true)
	first, _ := Packets(b, p, -1, 99)
	for i := range first {
		first[i] = short()
	}
	Packets(b[:9], p, -1, 99)
	wantPackets(t, b, p, -1, 99, hen())
}
