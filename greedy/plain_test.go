package greedy

import (
	"fmt"
	"math/rand"
	"slices"
	"strings"
	"testing"

	"cassone/api"
	"cassone/packet"
)

func match(dist, n int) packet.Packet {
	return packet.Packet{Kind: packet.Match, Dist: dist, Len: n}
}

func rep(i, n int) packet.Packet {
	return packet.Packet{Kind: packet.Rep, Dist: i, Len: n}
}

func lits(s string) []packet.Packet {
	var l []packet.Packet
	for _, b := range []byte(s) {
		l = append(l, packet.Packet{Kind: packet.Lit, Byte: b})
	}
	return l
}

// list of packets: each part is one packet, or a text, that stands for its bytes.
func list(parts ...any) []packet.Packet {
	var l []packet.Packet
	for _, p := range parts {
		switch x := p.(type) {
		case packet.Packet:
			l = append(l, x)
		case string:
			l = append(l, lits(x)...)
		}
	}
	return l
}

// plainLongest: of the matches of a place, as the chapters say them, the last one; 0 and 0, where there is none.
func plainLongest(s string, place, window, cut int) (n, dist int) {
	if place+3 > len(s) {
		return 0, 0
	}
	candidates := 0
	for d := 1; d <= min(place, window, api.MaxDist) && candidates < cut; d++ {
		if s[place:place+3] != s[place-d:place-d+3] {
			continue
		}
		candidates++
		k := 3
		for k < api.MaxLen && place+k < len(s) && s[place+k] == s[place-d+k] {
			k++
		}
		if k > n {
			n, dist = k, d
		}
	}
	return n, dist
}

// plainParse is the chapter, word by word.
func plainParse(s string, window, cut int) []packet.Packet {
	var l []packet.Packet
	for at := 0; at < len(s); {
		if n, dist := plainLongest(s, at, window, cut); n > 0 {
			l = append(l, match(dist, n))
			at += n
		} else {
			l = append(l, lits(s[at:at+1])...)
			at++
		}
	}
	return packet.Repeat(l)
}

// wantParse: these packets, and that they tell the text.
func wantParse(t *testing.T, s string, window, cut int, want []packet.Packet) {
	t.Helper()
	got := Parse(s, window, cut)
	if !slices.Equal(got, want) {
		t.Errorf("%.60q (%d bytes), window %d, cut %d: %s, want %s", s, len(s), window, cut, short(got), short(want))
	}
	wantTold(t, s, got)
}

// wantTold: packets that tell the text.
func wantTold(t *testing.T, s string, l []packet.Packet) {
	t.Helper()
	if got, e := packet.Apply(l, len(s)); e != api.OK || got != s {
		t.Errorf("%.60q (%d bytes): %d bytes, %d, of %s", s, len(s), len(got), e, short(l))
	}
}

// short form of a list: how many packets there are, and the last ones.
func short(l []packet.Packet) string {
	return fmt.Sprintf("%d packets .. %v", len(l), l[max(0, len(l)-20):])
}

func randomText(r *rand.Rand, n, kinds int) string {
	b := make([]byte, n)
	for i := range b {
		b[i] = byte(r.Intn(kinds))
	}
	return string(b)
}

// pieceText is made of pieces of one text, with a few other bytes between.
func pieceText(r *rand.Rand, n int) string {
	from := randomText(r, 1+r.Intn(500), 1+r.Intn(5))
	s := ""
	for len(s) < n {
		s += from[r.Intn(len(from)):] + randomText(r, r.Intn(3), 6)
	}
	return s
}

// apart is a text of a head and a tail, which begin so many bytes apart, and zeros between.
func apart(head string, dist int, tail string) string {
	return head + strings.Repeat("\x00", dist-len(head)) + tail
}

// apartPackets tell that text, but for its tail.
func apartPackets(head string, dist int) []packet.Packet {
	l := lits(head + "\x00")
	left := dist - len(head) - 1
	for left >= 3 {
		n := min(left, api.MaxLen)
		l = append(l, rep(0, n))
		left -= n
	}
	return append(l, lits(strings.Repeat("\x00", left))...)
}
