package price

import (
	"math"
	"slices"
	"testing"

	"cassone/api"
	"cassone/packet"
)

// primes: a table whose sums tell which prices are in them.
var primes = Table{Lit: 7, Match: 101, Near: 1009, Far: 5003, Bit: 11}

// P15.1: the prices, and that they may be.
func TestCommon(t *testing.T) {
	if c := Common(); c != (Table{Lit: 34, Match: 20, Near: 16, Far: 36, Bit: 5}) {
		t.Error(c)
	}
	if !Common().Good() {
		t.Error("not good")
	}
}

// P15.1: each price from 1 to 10000, whatever the others are.
func TestGood(t *testing.T) {
	for _, c := range []struct {
		price int
		want  bool
	}{
		{math.MinInt, false}, {-10000, false}, {-1, false}, {0, false},
		{1, true}, {2, true}, {34, true}, {9999, true}, {10000, true},
		{10001, false}, {65536, false}, {1 << 32, false}, {1<<32 + 1, false}, {math.MaxInt, false},
	} {
		for _, table := range []Table{Common(), primes, {1, 1, 1, 1, 1}, {10000, 10000, 10000, 10000, 10000}} {
			for i := range 5 {
				x := table
				*[]*int{&x.Lit, &x.Match, &x.Near, &x.Far, &x.Bit}[i] = c.price
				if got := x.Good(); got != c.want {
					t.Errorf("%+v: %v, want %v", x, got, c.want)
				}
			}
		}
		if x := (Table{c.price, c.price, c.price, c.price, c.price}); x.Good() != c.want {
			t.Errorf("%+v: want %v", x, c.want)
		}
	}
	if (Table{}).Good() {
		t.Error("no prices: good")
	}
}

// P15.1: near below 10, whatever is handed in.
func TestLength(t *testing.T) {
	for _, n := range []int{math.MinInt, -10, -1, 0, 1, 2, 3, 8, 9} {
		wantPrice(t, "length", n, primes.Length(n), primes.Near)
		wantPrice(t, "length", n, Common().Length(n), 16)
	}
	for _, n := range []int{10, 11, 19, 20, 100, api.MaxLen, api.MaxLen + 1, 1 << 32, math.MaxInt} {
		wantPrice(t, "length", n, primes.Length(n), primes.Far)
		wantPrice(t, "length", n, Common().Length(n), 36)
	}
}

// P15.1: the bits of a distance less one, of each distance that a packet may have.
func TestDist(t *testing.T) {
	for _, c := range []struct{ d, bits int }{
		{math.MinInt, 0}, {math.MinInt + 1, 0}, {-2, 0}, {-1, 0}, {0, 0}, {1, 0},
		{2, 1}, {3, 2}, {4, 2}, {5, 3}, {8, 3}, {9, 4}, {16, 4}, {17, 5},
		{65536, 16}, {65537, 17}, {api.MaxDist, 20}, {api.MaxDist + 1, 21},
		{1 << 31, 31}, {1<<31 + 1, 32}, {1 << 32, 32}, {1<<32 + 1, 33}, {math.MaxInt, 63},
	} {
		wantPrice(t, "distance", c.d, primes.Dist(c.d), 11*c.bits)
		wantPrice(t, "distance", c.d, Common().Dist(c.d), 5*c.bits)
		wantPrice(t, "distance", c.d, Table{Lit: 1, Match: 1, Near: 1, Far: 1, Bit: 10000}.Dist(c.d), 10000*c.bits)
	}
	bits, next := 0, 2 // the least distance that has one bit more
	for d := 1; d <= api.MaxDist+2; d++ {
		if d == next {
			bits++
			next = 2*d - 1
		}
		if got := Common().Dist(d); got != 5*bits {
			t.Fatalf("distance %d: %d, want %d", d, got, 5*bits)
		}
	}
}

// P15.1: the sum, each match by its length and its distance.
func TestOf(t *testing.T) {
	for _, c := range []struct {
		l    []packet.Packet
		want int
	}{
		{nil, 0},
		{[]packet.Packet{}, 0},
		{list(lit('a')), 7},
		{list(lit(0)), 7},
		{list(lit(255), lit('a'), lit('a')), 21},
		{list(match(3, 4)), 101 + 1009 + 22},
		{list(match(1, 2)), 101 + 1009},
		{list(match(2, 9)), 101 + 1009 + 11},
		{list(match(4, 10)), 101 + 5003 + 22},
		{list(match(api.MaxDist, api.MaxLen)), 101 + 5003 + 220},
		{list(match(1, 2), match(1, 10)), 202 + 1009 + 5003},
		{list(lit('a'), match(1, 3), lit('b'), match(5, 12), match(2, 2)), 14 + 303 + 2*1009 + 5003 + 44},
		// What doesn't fit has a price as well.
		{list(match(0, 0)), 101 + 1009},
		{list(match(-7, -7)), 101 + 1009},
		{list(match(math.MinInt, math.MaxInt)), 101 + 5003},
		{list(match(math.MaxInt, math.MinInt)), 101 + 1009 + 63*11},
	} {
		if got, ok := primes.Of(c.l); got != c.want || !ok {
			t.Errorf("%v: %d, %v, want %d", c.l, got, ok, c.want)
		}
	}
	if got, ok := Common().Of(list(match(3, 4))); got != 20+16+10 || !ok {
		t.Errorf("%d, %v", got, ok)
	}
}

// P15.1: bytes and matches alone, wherever another packet stands.
func TestOfOthers(t *testing.T) {
	for _, p := range []packet.Packet{
		{},
		{Kind: packet.Rep, Len: 4},
		{Kind: packet.Rep, Dist: 3, Len: 4},
		{Kind: packet.Short},
		{Kind: 5}, {Kind: -1}, {Kind: math.MinInt}, {Kind: math.MaxInt},
		{Dist: 3, Len: 4}, {Byte: 'a'},
	} {
		for _, l := range [][]packet.Packet{
			{p},
			{p, lit('a')},
			{lit('a'), p},
			{lit('a'), match(1, 3), p, match(1, 12), lit('b')},
			{lit('a'), p, p},
		} {
			if got, ok := primes.Of(l); got != 0 || ok {
				t.Errorf("%v: %d, %v", l, got, ok)
			}
		}
	}
}

// P15.1: what is handed in stays as it is.
func TestOfChangesNothing(t *testing.T) {
	l := list(lit('a'), match(1, 3), lit('b'), match(4, 12))
	was := slices.Clone(l)
	for range 3 {
		if got, ok := primes.Of(l); got != 14+202+1009+5003+22 || !ok {
			t.Errorf("%d, %v", got, ok)
		}
		primes.Of(append(l[:2:2], packet.Packet{Kind: packet.Short}))
	}
	if !slices.Equal(l, was) {
		t.Errorf("%v, was %v", l, was)
	}
}

// P15.1: long lists.
func TestOfLongLists(t *testing.T) {
	dear := Table{10000, 10000, 10000, 10000, 10000}
	l := slices.Repeat(list(lit('a'), match(api.MaxDist, 3)), 1<<19)
	if got, ok := dear.Of(l); got != (1<<19)*(10000+10000+10000+20*10000) || !ok {
		t.Errorf("%d, %v", got, ok)
	}
}

// P1: tables that aren't good are asked as well.
func TestAnyTable(t *testing.T) {
	for _, v := range []int{math.MinInt, -1, 0, 10001, math.MaxInt} {
		x := Table{v, v, v, v, v}
		wantPrice(t, "length", 3, x.Length(3), v)
		wantPrice(t, "length", 10, x.Length(10), v)
		wantPrice(t, "distance", 1, x.Dist(1), 0)
		wantPrice(t, "distance", 2, x.Dist(2), v)
		if got, ok := x.Of(list(lit('a'))); got != v || !ok {
			t.Errorf("%d, %v", got, ok)
		}
		x.Of(list(lit('a'), match(math.MaxInt, 3), match(2, 300), packet.Packet{}))
	}
}

func wantPrice(t *testing.T, what string, n, got, want int) {
	t.Helper()
	if got != want {
		t.Errorf("%s %d: %d, want %d", what, n, got, want)
	}
}

func lit(b byte) packet.Packet { return packet.Packet{Kind: packet.Lit, Byte: b} }

func match(dist, n int) packet.Packet {
	return packet.Packet{Kind: packet.Match, Dist: dist, Len: n}
}

func list(l ...packet.Packet) []packet.Packet { return l }
