package optimal

import (
	"fmt"
	"math/rand"
	"slices"
	"strings"
	"testing"

	"cassone/api"
	"cassone/packet"
	"cassone/price"
)

func match(dist, n int) packet.Packet {
	return packet.Packet{Kind: packet.Match, Dist: dist, Len: n}
}

func rep(i, n int) packet.Packet {
	return packet.Packet{Kind: packet.Rep, Dist: i, Len: n}
}

func lits(s string) []packet.Packet {
	var l []packet.Packet
	for _, b := range []byte(s) {
		l = append(l, packet.Packet{Kind: packet.Lit, Byte: b})
	}
	return l
}

// list of packets: each part is one packet, or a text, that stands for its bytes.
func list(parts ...any) []packet.Packet {
	var l []packet.Packet
	for _, p := range parts {
		switch x := p.(type) {
		case packet.Packet:
			l = append(l, x)
		case string:
			l = append(l, lits(x)...)
		}
	}
	return l
}

// plainCost is the chapter, word by word: the least that any bytes and matches cost that tell the text. All distances and all lengths are tried at each place.
func plainCost(s string, window int, t price.Table) int {
	rest := make([]int, len(s)+1)
	for at := len(s) - 1; at >= 0; at-- {
		rest[at] = t.Lit + rest[at+1]
		for d := 1; d <= min(at, window, api.MaxDist); d++ {
			for n := 1; n <= api.MaxLen && at+n <= len(s) && s[at+n-1] == s[at+n-1-d]; n++ {
				if n >= api.MinLen {
					rest[at] = min(rest[at], t.Match+t.Length(n)+t.Dist(d)+rest[at+n])
				}
			}
		}
	}
	return rest[0]
}

// wantCost: packets that tell the text and cost so much.
func wantCost(t *testing.T, s string, window int, table price.Table, want int) {
	t.Helper()
	l := Plain(s, window, table)
	if got, ok := table.Of(l); got != want || !ok {
		t.Errorf("%.60q (%d bytes), window %d, %v: %d (%v), want %d: %s", s, len(s), window, table, got, ok, want, short(l))
	}
	wantTold(t, s, window, l)
}

// wantPlain: these packets, where none are as cheap.
func wantPlain(t *testing.T, s string, window int, table price.Table, want []packet.Packet) {
	t.Helper()
	got := Plain(s, window, table)
	if !slices.Equal(got, want) {
		t.Errorf("%.60q (%d bytes), window %d, %v: %s, want %s", s, len(s), window, table, short(got), short(want))
	}
	wantTold(t, s, window, got)
}

// wantTold: bytes and matches that tell the text, from no farther than they may.
func wantTold(t *testing.T, s string, window int, l []packet.Packet) {
	t.Helper()
	if got, e := packet.Apply(l, len(s)); e != api.OK || got != s {
		t.Errorf("%.60q (%d bytes): %d bytes, %d, of %s", s, len(s), len(got), e, short(l))
	}
	for _, p := range l {
		if p.Kind != packet.Lit && p.Kind != packet.Match || p.Dist > max(0, min(window, api.MaxDist)) {
			t.Errorf("%.60q (%d bytes), window %d: %v", s, len(s), window, p)
		}
	}
}

// short form of a list: how many packets there are, and the last ones.
func short(l []packet.Packet) string {
	return fmt.Sprintf("%d packets .. %v", len(l), l[max(0, len(l)-20):])
}

func randomText(r *rand.Rand, n, kinds int) string {
	b := make([]byte, n)
	for i := range b {
		b[i] = byte(r.Intn(kinds))
	}
	return string(b)
}

// pieceText is made of pieces of one text, with a few other bytes between.
func pieceText(r *rand.Rand, n int) string {
	from := randomText(r, 1+r.Intn(500), 1+r.Intn(5))
	s := ""
	for len(s) < n {
		at := r.Intn(len(from))
		s += from[at:at+1+r.Intn(len(from)-at)] + randomText(r, r.Intn(3), 6)
	}
	return s
}

// randomTable: prices near each other, or far apart.
func randomTable(r *rand.Rand) price.Table {
	p := func() int {
		switch r.Intn(4) {
		case 0:
			return 1 + r.Intn(3)
		case 1:
			return 10000 - r.Intn(3)
		case 2:
			return 1 + r.Intn(10000)
		}
		return 1 + r.Intn(50)
	}
	return price.Table{Lit: p(), Match: p(), Near: p(), Far: p(), Bit: p()}
}

// apart is a text of a head and a tail, which begin so many bytes apart, and zeros between.
func apart(head string, dist int, tail string) string {
	return head + strings.Repeat("\x00", dist-len(head)) + tail
}
