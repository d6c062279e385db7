package model

import (
	"encoding/hex"
	"fmt"
	"math"
	"math/rand"
	"strings"
	"testing"

	"cassone/api"
	"cassone/packet"
	"cassone/rc"
)

func lit(b byte) packet.Packet {
	return packet.Packet{Kind: packet.Lit, Byte: b}
}

func match(dist, n int) packet.Packet {
	return packet.Packet{Kind: packet.Match, Dist: dist, Len: n}
}

func rep(i, n int) packet.Packet {
	return packet.Packet{Kind: packet.Rep, Dist: i, Len: n}
}

func short() packet.Packet { return packet.Packet{Kind: packet.Short} }

func lits(s string) []packet.Packet {
	var l []packet.Packet
	for _, b := range []byte(s) {
		l = append(l, lit(b))
	}
	return l
}

// goodParams are all that may be.
func goodParams() []Params {
	var l []Params
	for lc := range 5 {
		for lp := range 5 - lc {
			for pb := range 5 {
				l = append(l, Params{lc, lp, pb})
			}
		}
	}
	return l
}

// putAll of a list; each must fit.
func putAll(t *testing.T, m *Model, e *rc.Encoder, l []packet.Packet) {
	t.Helper()
	for i, p := range l {
		if !m.Put(e, p) {
			t.Fatalf("packet %d, %v: not put", i, p)
		}
	}
}

// getAll of a list.
func getAll(t *testing.T, m *Model, d *rc.Decoder, l []packet.Packet) {
	t.Helper()
	for i, p := range l {
		if got, end, ok := m.Get(d); got != p || end || !ok {
			t.Fatalf("packet %d: got %v, %v, %v, want %v", i, got, end, ok, p)
		}
	}
}

func wantEnd(t *testing.T, m *Model, d *rc.Decoder) {
	t.Helper()
	if p, end, ok := m.Get(d); p != (packet.Packet{}) || !end || !ok {
		t.Fatalf("got %v, %v, %v, want the end", p, end, ok)
	}
}

func wantNone(t *testing.T, m *Model, d *rc.Decoder) {
	t.Helper()
	if p, end, ok := m.Get(d); p != (packet.Packet{}) || end || ok {
		t.Errorf("got %v, %v, %v, want none", p, end, ok)
	}
}

// P10.1, Good, and New of what isn't.
func TestParams(t *testing.T) {
	good := goodParams()
	if len(good) != 75 {
		t.Fatal(len(good))
	}
	for _, p := range good {
		if !p.Good() || New(p, 9) == nil {
			t.Errorf("%v may be", p)
		}
	}
	for _, p := range []Params{
		{-1, 0, 0}, {0, -1, 0}, {0, 0, -1}, {5, 0, 0}, {0, 5, 0}, {0, 0, 5},
		{3, 2, 0}, {2, 3, 0}, {1, 4, 0}, {4, 1, 0}, {5, -1, 0}, {-1, 5, 0}, {4, 4, 4},
		{math.MaxInt, math.MaxInt, 0}, {math.MaxInt, 0, 0}, {0, math.MaxInt, 0}, {0, 0, math.MaxInt},
		{math.MinInt, math.MinInt, 0}, {math.MinInt, 0, 0}, {0, math.MinInt, 0}, {0, 0, math.MinInt},
		{math.MinInt, math.MaxInt, 0}, {math.MaxInt, math.MinInt, 0}, {math.MaxInt, 5, 0}, {5, math.MaxInt, 0},
	} {
		if p.Good() || New(p, 9) != nil {
			t.Errorf("%v may not be", p)
		}
	}
}

// P10.1: the example, and a text as it grows.
func TestTextGrows(t *testing.T) {
	m, e := New(Params{3, 0, 2}, 300), rc.NewEncoder()
	for _, c := range []struct {
		p    packet.Packet
		text string
	}{
		{lit('a'), "a"},
		{short(), "aa"},
		{lit('b'), "aab"},
		{match(2, 4), "aababab"},
		{lit('c'), "aabababc"},
		{rep(0, 2), "aabababcbc"},
		{rep(1, 2), "aabababcbccc"},
		{rep(1, 3), "aabababcbccccccc"[:15]},
		{short(), "aabababcbccccccc"},
		{rep(3, 273), "aabababcbccccccc" + strings.Repeat("c", 273)},
	} {
		if !m.Put(e, c.p) || m.Text() != c.text || m.Len() != len(c.text) {
			t.Fatalf("%v: %q of %d, want %q", c.p, m.Text(), m.Len(), c.text)
		}
	}
}

// handBits are written as the probability's name, the bit; those without a name are direct.
func handBits(s string) []plainBit {
	var l []plainBit
	for _, w := range strings.Fields(s) {
		name, bit, _ := strings.Cut(w, "=")
		l = append(l, plainBit{name, int(bit[0] - '0')})
	}
	return l
}

// P10.1: a packet's bits, worked out by hand: all kinds, and the edges of lengths and slots.
func TestBits(t *testing.T) {
	m, e := New(Params{0, 0, 0}, 999), rc.NewEncoder()
	hand, f := newPlain(Params{}), rc.NewEncoder()
	for i, c := range []struct {
		p    packet.Packet
		bits string
	}{
		{lit('a'), "kind0=0 b1=0 b2=1 b5=1 b11=0 b22=0 b44=0 b88=0 b176=1"},
		// The slot 0, of the class 3.
		{match(1, 5), "kind0=1 again0=0 m8=0 mnear1=0 mnear2=1 mnear5=1 3slot1=0 3slot2=0 3slot4=0 3slot8=0 3slot16=0 3slot32=0"},
		// Beside the byte 1 back, an a.
		{lit('c'), "kind7=0 b257=0 b514=1 b517=1 b267=0 b278=0 b300=0 b344=1 b177=1"},
		{rep(0, 10), "kind4=1 again4=1 second4=0 more4=1 r8=1 r16=0 rmid1=0 rmid2=0 rmid4=0"},
		{short(), "kind8=1 again8=1 second8=0 more8=0"},
		// Its distance less one is 17: the slot 8, and 1 more in three bits.
		{match(18, 23), "kind11=1 again11=0 m8=1 m16=1 mfar1=0 mfar2=0 mfar4=0 mfar8=0 mfar16=0 mfar32=1 mfar65=0 mfar130=1 " +
			"3slot1=0 3slot2=0 3slot4=1 3slot9=0 3slot18=0 3slot36=0 8more1=1 8more3=0 8more6=0"},
		{rep(1, 2), "kind10=1 again10=1 second10=1 third10=0 r8=0 rnear1=0 rnear2=0 rnear4=0"},
		{rep(2, 3), "kind11=1 again11=1 second11=1 third11=1 fourth11=0 r8=0 rnear1=0 rnear2=0 rnear4=1"},
		{rep(3, 9), "kind11=1 again11=1 second11=1 third11=1 fourth11=1 r8=0 rnear1=1 rnear3=1 rnear7=1"},
		// 54 less one: the slot 11, and 5 more in four bits.
		{match(54, 2), "kind11=1 again11=0 m8=0 mnear1=0 mnear2=0 mnear4=0 0slot1=0 0slot2=0 0slot4=1 0slot9=0 0slot18=1 0slot37=1 " +
			"11more1=1 11more3=0 11more6=1 11more13=0"},
		// Beside the byte 54 back, an a.
		{lit('b'), "kind10=0 b257=0 b514=1 b517=1 b267=0 b278=0 b300=0 b344=1 b177=0"},
		{lit('d'), "kind4=0 b1=0 b2=1 b5=1 b11=0 b22=0 b44=1 b89=0 b178=0"},
		{rep(0, 273), "kind1=1 again1=1 second1=0 more1=1 r8=1 r16=1 rfar1=1 rfar3=1 rfar7=1 rfar15=1 rfar31=1 rfar63=1 rfar127=1 rfar255=1"},
		// 300 less one: the slot 16, and 43 more in seven bits: 2 direct in three, 11 in four.
		{match(300, 3), "kind8=1 again8=0 m8=0 mnear1=0 mnear2=0 mnear4=1 1slot1=0 1slot2=1 1slot5=0 1slot10=0 1slot20=0 1slot40=0 " +
			"=0 =1 =0 last1=1 last3=1 last7=0 last14=1"},
		{match(128, 17), "kind10=1 again10=0 m8=1 m16=0 mmid1=1 mmid3=1 mmid7=1 3slot1=0 3slot2=0 3slot4=1 3slot9=1 3slot19=0 3slot38=1 " +
			"13more1=1 13more3=1 13more7=1 13more15=1 13more31=1"},
		{match(129, 18), "kind10=1 again10=0 m8=1 m16=1 mfar1=0 mfar2=0 mfar4=0 mfar8=0 mfar16=0 mfar32=0 mfar64=0 mfar128=0 " +
			"3slot1=0 3slot2=0 3slot4=1 3slot9=1 3slot19=1 3slot39=0 =0 =0 last1=0 last2=0 last4=0 last8=0"},
	} {
		if !m.Put(e, c.p) {
			t.Fatalf("packet %d, %v: not put", i, c.p)
		}
		if hand.putBits(f, handBits(c.bits)); e.End() != f.End() {
			t.Fatalf("packet %d, %v:\n%x, want\n%x", i, c.p, e.End(), f.End())
		}
	}
	m.PutEnd(e)
	hand.putBits(f, handBits("kind10=1 again10=0 m8=0 mnear1=0 mnear2=0 mnear4=0 0slot1=1 0slot3=1 0slot7=1 0slot15=1 0slot31=1 0slot63=1 "+
		strings.Repeat("=1 ", 26)+"last1=1 last3=1 last7=1 last15=1"))
	if e.End() != f.End() {
		t.Errorf("the end:\n%x, want\n%x", e.End(), f.End())
	}
}

// P10.1: on which numbers a byte's tree hangs, and the bits that hang on P, worked out by hand: of each packet the tree, and P.
func TestPlaces(t *testing.T) {
	for _, c := range []struct {
		p     Params
		text  string
		trees []int
		here  []int
	}{
		{Params{0, 0, 0}, "a\xffbc", []int{0, 0, 0, 0}, []int{0, 0, 0, 0}},
		// 61 is 011 00001, and 62 011 00010; FF 111 11111; 20 001 00000.
		{Params{3, 0, 2}, "ab\xff a", []int{0, 3, 3, 7, 1}, []int{0, 1, 2, 3, 0}},
		{Params{2, 1, 1}, "abc\xffa", []int{0, 5, 1, 5, 3}, []int{0, 1, 0, 1, 0}},
		{Params{0, 4, 4}, "abcdefghijklmnopqr", []int{0, 1, 2, 3, 4, 5, 6, 7, 8, 9, 10, 11, 12, 13, 14, 15, 0, 1}, []int{0, 1, 2, 3, 4, 5, 6, 7, 8, 9, 10, 11, 12, 13, 14, 15, 0, 1}},
		{Params{4, 0, 3}, "az\x00\xff0abcde", []int{0, 6, 7, 0, 15, 3, 6, 6, 6, 6}, []int{0, 1, 2, 3, 4, 5, 6, 7, 0, 1}},
	} {
		m, e := New(c.p, 99), rc.NewEncoder()
		hand, f := newPlain(Params{}), rc.NewEncoder()
		for i, b := range []byte(c.text) {
			m.Put(e, lit(b))
			hand.putBits(f, []plainBit{{fmt.Sprint("kind", c.here[i]), 0}})
			hand.putBits(f, treeBits(fmt.Sprint("byte", c.trees[i]), int(b), 8))
			if e.End() != f.End() {
				t.Errorf("%v, place %d: %x, want %x", c.p, i, e.End(), f.End())
				break
			}
		}
	}
}

// P10.1: all kinds of packets, by all Params, beside the plain form; P10.2: and back.
func TestBesidePlain(t *testing.T) {
	r := rand.New(rand.NewSource(1))
	for _, p := range goodParams() {
		m, e := New(p, 12000), rc.NewEncoder()
		plain, f := newPlain(p), rc.NewEncoder()
		var l []packet.Packet
		for range 150 {
			x := anyPacket(r, m.Len(), 12000-m.Len(), plain.reps)
			l = append(l, x)
			plain.put(f, x)
			if !m.Put(e, x) || m.Len() != len(plain.text) {
				t.Fatalf("%v, %v: %d bytes, want %d", p, x, m.Len(), len(plain.text))
			}
		}
		m.PutEnd(e)
		plain.putEnd(f)
		if e.End() != f.End() || m.Text() != plain.text {
			t.Fatalf("%v: %x %q, want %x %q", p, e.End(), m.Text(), f.End(), plain.text)
		}
		back, d := New(p, 12000), rc.NewDecoder(e.End())
		getAll(t, back, d, l)
		wantEnd(t, back, d)
		if !d.Done() || d.Bad() || back.Text() != plain.text || back.Len() != m.Len() {
			t.Errorf("%v: done %v, bad %v, %d bytes", p, d.Done(), d.Bad(), back.Len())
		}
	}
}

// P10.2: distances up to the greatest one, of all slots that it has, and all lengths.
func TestFarBack(t *testing.T) {
	const most = api.MaxDist + 3000000
	l := []packet.Packet{lit('a'), lit('b'), lit('c')}
	have := 3
	for have < api.MaxDist+5 {
		l = append(l, match(min(have, 3), 273))
		have += 273
	}
	for n := range 21 {
		for _, dist := range []int{1<<n - 1, 1 << n, 1<<n + 1, 1<<n + 1<<n/2, 1<<n + 1<<n/2 + 1} {
			if dist >= 1 && dist <= api.MaxDist {
				l = append(l, lit(byte(n)), match(dist, 2+dist%272))
			}
		}
	}
	for n := 2; n <= 273; n++ {
		l = append(l, match(api.MaxDist-n, n), rep(0, n), lit(byte(n)), match(1, n), rep(1, n))
	}
	m, e := New(Params{3, 0, 2}, most), rc.NewEncoder()
	putAll(t, m, e, l)
	m.PutEnd(e)
	back, d := New(Params{3, 0, 2}, most), rc.NewDecoder(e.End())
	getAll(t, back, d, l)
	wantEnd(t, back, d)
	want, _ := packet.Apply(l, most)
	if !d.Done() || d.Bad() || m.Text() != want || back.Text() != want {
		t.Errorf("done %v, bad %v", d.Done(), d.Bad())
	}
}

// P10.2: behind the end both go on: it changes neither the text, nor the last distances, nor the state.
func TestBehindTheEnd(t *testing.T) {
	ahead := []packet.Packet{lit('a'), lit('b'), match(2, 3), lit('c')}
	behind := []packet.Packet{rep(0, 2), lit('d'), match(3, 20), short()}
	p := Params{1, 1, 1}
	m, e := New(p, 99), rc.NewEncoder()
	plain, f := newPlain(p), rc.NewEncoder()
	putAll(t, m, e, ahead)
	m.PutEnd(e)
	m.PutEnd(e)
	putAll(t, m, e, behind)
	for _, x := range ahead {
		plain.put(f, x)
	}
	plain.putEnd(f)
	plain.putEnd(f)
	for _, x := range behind {
		plain.put(f, x)
	}
	if e.End() != f.End() || m.Text() != plain.text {
		t.Errorf("%x %q, want %x %q", e.End(), m.Text(), f.End(), plain.text)
	}
	back, d := New(p, 99), rc.NewDecoder(e.End())
	getAll(t, back, d, ahead)
	wantEnd(t, back, d)
	wantEnd(t, back, d)
	getAll(t, back, d, behind)
	if !d.Done() || d.Bad() || back.Text() != plain.text {
		t.Errorf("done %v, bad %v, %q", d.Done(), d.Bad(), back.Text())
	}
}

// P10.1: the end needs no room, and no text.
func TestEndAlone(t *testing.T) {
	m, e := New(Params{}, 0), rc.NewEncoder()
	m.PutEnd(e)
	if m.Len() != 0 || m.Text() != "" {
		t.Error("the end has bytes")
	}
	wantEnd(t, New(Params{}, 0), rc.NewDecoder(e.End()))
}

// P10.1, Put: what doesn't fit is not put, and nothing happens.
func TestNotPut(t *testing.T) {
	p := Params{2, 1, 1}
	ahead := append(lits("abcabc"), match(3, 4), lit('x'), match(6, 2), rep(1, 3))
	m, e := New(p, 64), rc.NewEncoder()
	putAll(t, m, e, ahead)
	have, text, bytes := m.Len(), m.Text(), e.End()
	for _, x := range []packet.Packet{
		{}, {Kind: 5, Byte: 'a'}, {Kind: -1}, {Kind: math.MinInt}, {Kind: math.MaxInt},
		{Kind: packet.Lit, Byte: 'a', Dist: 1}, {Kind: packet.Lit, Len: 1}, {Kind: packet.Match, Dist: 1, Len: 2, Byte: 1},
		{Kind: packet.Rep, Len: 2, Byte: 1}, {Kind: packet.Short, Len: 1}, {Kind: packet.Short, Byte: 1}, {Kind: packet.Short, Dist: 1},
		match(0, 2), match(-1, 2), match(have+1, 2), match(math.MinInt, 2), match(math.MaxInt, 2), match(api.MaxDist+1, 2),
		match(1<<31, 2), match(1<<32-1, 2), match(1<<32, 2), match(1<<32+1, 2),
		match(1, 1), match(1, 0), match(1, -2), match(1, 274), match(1, math.MinInt), match(1, math.MaxInt),
		rep(4, 2), rep(-1, 2), rep(math.MinInt, 2), rep(math.MaxInt, 2),
		rep(0, 1), rep(0, 274), rep(0, math.MinInt), rep(0, math.MaxInt),
		// No room.
		match(1, 64-have+1), rep(3, 64-have+1), match(1, 273), rep(0, 273),
	} {
		if m.Put(e, x) || m.Len() != have || m.Text() != text || e.End() != bytes {
			t.Errorf("%v: put", x)
		}
	}
	// So all goes on as if nobody had asked.
	behind := []packet.Packet{short(), lit('y'), rep(0, 2), match(7, 64-have-4)}
	putAll(t, m, e, behind)
	m.PutEnd(e)
	plain, f := newPlain(p), rc.NewEncoder()
	for _, x := range append(ahead, behind...) {
		plain.put(f, x)
	}
	plain.putEnd(f)
	if e.End() != f.End() || m.Text() != plain.text || m.Len() != 64 {
		t.Errorf("%x %q, want %x %q", e.End(), m.Text(), f.End(), plain.text)
	}
	for _, x := range []packet.Packet{lit('z'), short(), match(1, 2), rep(0, 2)} {
		if m.Put(e, x) || m.Len() != 64 {
			t.Errorf("%v: put into a full one", x)
		}
	}
}

// P10.1, Put: behind no text nothing but a byte fits.
func TestNotPutFirst(t *testing.T) {
	m, e := New(Params{3, 0, 2}, 99), rc.NewEncoder()
	for _, x := range []packet.Packet{short(), match(1, 2), rep(0, 2), rep(3, 2)} {
		if m.Put(e, x) || e.End() != rc.NewEncoder().End() || m.Text() != "" {
			t.Errorf("%v: put", x)
		}
	}
	if !m.Put(e, lit(0)) || !m.Put(e, rep(3, 2)) || m.Text() != "\x00\x00\x00" {
		t.Errorf("%q", m.Text())
	}
}

// P10.1, New: at least 0 bytes; and as many as are asked for.
func TestMost(t *testing.T) {
	for _, most := range []int{math.MinInt, math.MinInt + 1, -1, 0, 1, 2, 3, math.MaxInt} {
		m, e := New(Params{}, most), rc.NewEncoder()
		for i, x := range []packet.Packet{lit('a'), short(), short()} {
			if got := m.Put(e, x); got != (i < most) {
				t.Errorf("%d bytes at most: byte %d put: %v", most, i, got)
			}
		}
		if want := min(max(most, 0), 3); m.Len() != want || m.Text() != "aaa"[:want] {
			t.Errorf("%d bytes at most: %q", most, m.Text())
		}
	}
}

// gotBehind is what a model gets of bits that its own Put would refuse, behind packets that fit.
func gotBehind(t *testing.T, ahead []packet.Packet, most int, x packet.Packet) (packet.Packet, bool, bool) {
	t.Helper()
	p := Params{3, 0, 2}
	plain, e := newPlain(p), rc.NewEncoder()
	for _, y := range ahead {
		plain.put(e, y)
	}
	plain.putBits(e, plain.bits(x))
	m, d := New(p, most), rc.NewDecoder(e.End())
	getAll(t, m, d, ahead)
	return m.Get(d)
}

// P10.1, Get: bits of what doesn't fit, or for which there is no room.
func TestNotGot(t *testing.T) {
	some := append(lits("abcd"), match(4, 3))
	full := append(lits("abcd"), match(4, 3), lit('x'))
	for _, c := range []struct {
		ahead []packet.Packet
		x     packet.Packet
	}{
		{nil, short()}, {nil, match(1, 2)}, {nil, rep(0, 2)}, {nil, rep(3, 2)}, {nil, match(1<<32-1, 2)},
		{some, match(8, 2)}, {some, match(1<<31, 2)}, {some, match(1<<31+1, 2)}, {some, match(1<<32-1, 2)},
		// As the end, but of another length.
		{some, match(1<<32, 3)}, {some, match(1<<32, 273)}, {nil, match(1<<32, 4)},
		{some, match(7, 3)}, {some, rep(1, 3)}, {some, match(1, 273)},
		{full, lit('a')}, {full, short()}, {full, match(1, 2)}, {full, rep(0, 2)}, {full, match(9, 2)},
	} {
		if p, end, ok := gotBehind(t, c.ahead, 8+len(c.ahead)-len(full), c.x); p != (packet.Packet{}) || end || ok {
			t.Errorf("%v behind %v: got %v, %v, %v", c.x, c.ahead, p, end, ok)
		}
	}
}

// P10.1, Get: the greatest distance is MaxDist, however long the text.
func TestTooFar(t *testing.T) {
	p := Params{3, 0, 2}
	for far, want := range map[int]bool{api.MaxDist: true, api.MaxDist + 1: false} {
		m, back, e := New(p, 2*api.MaxDist), New(p, 2*api.MaxDist), rc.NewEncoder()
		l := []packet.Packet{lit('a')}
		for range 4000 {
			l = append(l, rep(0, 273))
		}
		putAll(t, m, e, l)
		if got := m.Put(e, match(far, 2)); got != want {
			t.Errorf("%d back: put %v", far, got)
		}
		if !want {
			m.code(encoding{e}, match(far, 2))
		}
		d := rc.NewDecoder(e.End())
		getAll(t, back, d, l)
		if want {
			getAll(t, back, d, []packet.Packet{match(far, 2)})
		} else {
			wantNone(t, back, d)
		}
	}
}

// P10.1, P10.2: bytes that another program made of this text, by the same symbols, with the end behind them.
func TestKnownBytes(t *testing.T) {
	const text = "the hen in the hat and the cat in the hat; the hen, the hen! aaaaaaaaaaaaaaaaaaaaaaaaaaaaaaaaaaaaaaaab the cat, the hat, the hen"
	for p, known := range map[Params]string{
		{3, 0, 2}: "003a1a08ce7bcfb381050c918e3b4a1bd4f479f6ce9b099e45e1c8d5ac4fa6d821666d5f07b6f82bcf9d687c0d1522c9fff811dc00",
		{0, 2, 0}: "003a1ad9d47a17301bb3920084cd981da5cce3fc2143b5c3a4ccb1db4607ef33c0fdc5ba7bf5c38391842c923385c4e25ffd29ac00",
		{1, 3, 4}: "003a1a08a2080237080d6ad34a66491bd27ebf1c5cd45f13f7db76528baa5ec27876ac6842f24f838c08d4ebc6aa998ffffe3b8400",
	} {
		b, err := hex.DecodeString(known)
		if err != nil {
			t.Fatal(err)
		}
		m, d := New(p, len(text)), rc.NewDecoder(string(b))
		again, e := New(p, len(text)), rc.NewEncoder()
		for {
			x, end, ok := m.Get(d)
			if !ok {
				t.Fatalf("%v: behind %q nothing fits", p, m.Text())
			}
			if end {
				break
			}
			again.Put(e, x)
		}
		again.PutEnd(e)
		if m.Text() != text || !d.Done() || d.Bad() || e.End() != string(b) {
			t.Errorf("%v: %q, done %v, bad %v, again %x", p, m.Text(), d.Done(), d.Bad(), e.End())
		}
	}
}

// P1: of bytes that nobody put, all calls end; what is got fits, as long as something is.
func TestGetOfAnyBytes(t *testing.T) {
	r := rand.New(rand.NewSource(2))
	for range 300 {
		b := make([]byte, r.Intn(200))
		r.Read(b)
		if len(b) > 0 {
			b[0] = byte(r.Intn(2))
		}
		m, d := New(goodParams()[r.Intn(75)], 3000), rc.NewDecoder(string(b))
		var l []packet.Packet
		for range 400 {
			p, end, ok := m.Get(d)
			if !ok || end {
				break
			}
			l = append(l, p)
			if want, e := packet.Apply(l, 3000); e != api.OK || len(want) != m.Len() || len(l)%64 == 0 && want != m.Text() {
				t.Fatalf("%x: behind %v: %q, %d", b, l, m.Text(), e)
			}
		}
		// Behind what doesn't fit nothing is said but that all calls end.
		for range 50 {
			m.Get(d)
			m.PutEnd(rc.NewEncoder())
			m.Put(rc.NewEncoder(), lit('a'))
			if m.Len() != len(m.Text()) || m.Len() > 3000 {
				t.Fatalf("%d of %d", m.Len(), len(m.Text()))
			}
		}
	}
}

// Rules: two models know nothing of one another.
func TestTwoModels(t *testing.T) {
	p := Params{3, 0, 2}
	a, b, alone := New(p, 99), New(p, 99), New(p, 99)
	e, f, g := rc.NewEncoder(), rc.NewEncoder(), rc.NewEncoder()
	l := append(lits("abcabc"), match(3, 30), short(), rep(0, 4))
	for _, x := range l {
		a.Put(e, lit('z'))
		if !b.Put(f, x) || !alone.Put(g, x) {
			t.Fatal(x)
		}
		a.Put(e, match(1, 2))
	}
	if f.End() != g.End() || b.Text() != alone.Text() {
		t.Errorf("%x, want %x", f.End(), g.End())
	}
}

// P10.1: a nil model.
func TestNil(t *testing.T) {
	var m *Model
	const bytes = "\x00\x01\x02\x03\x04\x05"
	e, d := rc.NewEncoder(), rc.NewDecoder(bytes)
	m.PutEnd(e)
	if m.Put(e, lit('a')) || m.Put(e, packet.Packet{}) || e.End() != rc.NewEncoder().End() || m.Text() != "" || m.Len() != 0 {
		t.Error("something was put")
	}
	wantNone(t, m, d)
	if *d != *rc.NewDecoder(bytes) {
		t.Error("something was got")
	}
}
