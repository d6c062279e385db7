package piece

import (
	"math"
	"math/rand"
	"strings"
	"testing"

	"cassone/api"
	"cassone/chain"
	"cassone/packet"
)

// P13.1 and P14.1: a byte alone, of one place, and matches.
func TestPacket(t *testing.T) {
	for _, c := range []struct {
		p    Piece
		size int
		want packet.Packet
	}{
		{Piece{}, 1, packet.Packet{Kind: packet.Lit, Byte: 'a'}},
		{Piece{Len: 3, Dist: 1}, 3, packet.Packet{Kind: packet.Match, Dist: 1, Len: 3}},
		{Piece{Len: 273, Dist: 9}, 273, packet.Packet{Kind: packet.Match, Dist: 9, Len: 273}},
	} {
		if n := c.p.Size(); n != c.size {
			t.Errorf("%v takes %d places, want %d", c.p, n, c.size)
		}
		if x := c.p.Packet('a'); x != c.want {
			t.Errorf("%v: %v, want %v", c.p, x, c.want)
		}
	}
}

// P13.1 and P14.1: at each place the last one of layer 7's matches.
func TestNext(t *testing.T) {
	r := rand.New(rand.NewSource(1))
	bounds := []int{math.MinInt, -1, 0, 1, 2, 7, 20, math.MaxInt}
	for range 300 {
		b := make([]byte, r.Intn(150))
		for i := range b {
			b[i] = byte(r.Intn(3))
		}
		s, window, cut := string(b), bounds[r.Intn(len(bounds))], bounds[r.Intn(len(bounds))]
		f, matches := New(s, window, cut), chain.New(s, window, cut)
		// Behind the end there is nothing.
		for i := range len(s) + 3 {
			want := Piece{}
			for _, m := range matches.Next() {
				want = Piece(m)
			}
			if p := f.Next(); p != want {
				t.Fatalf("%q, window %d, cut %d, place %d: %v, want %v", s, window, cut, i, p, want)
			}
		}
	}
}

// P13.1 and P14.1: of those at most MaxDist back.
func TestMaxDist(t *testing.T) {
	for dist, want := range map[int]Piece{
		api.MaxDist:     {Len: 4, Dist: api.MaxDist},
		api.MaxDist + 1: {Len: 3, Dist: 4},
	} {
		s := "abcd" + strings.Repeat("\x00", dist-8) + "abcXabcd"
		f := New(s, math.MaxInt, 9)
		for range dist {
			f.Next()
		}
		if p := f.Next(); p != want {
			t.Errorf("%d apart: %v, want %v", dist, p, want)
		}
	}
}
