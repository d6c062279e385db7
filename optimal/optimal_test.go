package optimal

import (
	"math"
	"math/rand"
	"slices"
	"strings"
	"testing"

	"cassone/api"
	"cassone/packet"
	"cassone/price"
)

// Tables by which other pieces are the cheapest.
var (
	common    = price.Common()
	cheapLit  = price.Table{Lit: 1, Match: 9, Near: 9, Far: 9, Bit: 9}
	dearLit   = price.Table{Lit: 10000, Match: 1, Near: 1, Far: 1, Bit: 1}
	dearMatch = price.Table{Lit: 1, Match: 10000, Near: 1, Far: 1, Bit: 1}
	dearNear  = price.Table{Lit: 100, Match: 1, Near: 10000, Far: 1, Bit: 1}
	dearFar   = price.Table{Lit: 100, Match: 1, Near: 1, Far: 10000, Bit: 1}
	dearBit   = price.Table{Lit: 100, Match: 1, Near: 1, Far: 1, Bit: 10000}
)

// alphabet: no two bytes of it come back.
const alphabet = "0123456789abcdefghijklmnopqrstuvwxyzABCDEFGHIJKLMNOPQRSTUVWXYZ+-"

// P16.1: worked out by hand, where one list is the cheapest.
func TestPlain(t *testing.T) {
	for _, c := range []struct {
		text  string
		table price.Table
		want  []packet.Packet
	}{
		{"", common, nil},
		{"a", common, list("a")},
		{"ab", common, list("ab")},
		{"aa", dearLit, list("aa")},
		// Two bytes are enough, and overlapping is as well.
		{"aaa", common, list("a", match(1, 2))},
		{"aaaa", common, list("a", match(1, 3))},
		{"aaaa", cheapLit, list("aaaa")},
		{"abab", common, list("ab", match(2, 2))},
		{"ababa", common, list("ab", match(2, 3))},
		{"abcabc", common, list("abc", match(3, 3))},
		// Two bytes from so far back cost 66, and one bit more 71; the bytes cost 68.
		{"!?" + alphabet[:62] + "!?", common, list("!?"+alphabet[:62], match(64, 2))},
		{"!?" + alphabet[:63] + "!?", common, list("!?" + alphabet[:63] + "!?")},
		// A byte first, where what is behind it is longer.
		{"abxbcdefgabcdefg", common, list("abxbcdefga", match(7, 6))},
		// The longest isn't the cheapest, where what is nearer and what is left are cheaper.
		{"abcd.:abc,defghi;abcdefghi", common, list("abcd.:", match(6, 3), ",defghi;", match(11, 3), match(10, 6))},
		// Nor all of it, where what is behind it can begin within it.
		{"abcdefghij.jKLMNO!abcdefghijKLMNO", common, list("abcdefghij.jKLMNO!", match(18, 9), match(16, 6))},
		// By the distance alone.
		{"abcdXabYabcd", dearBit, list("abcdXabYabcd")},
		{"aaaaaaaaaa", dearBit, list("a", match(1, 9))},
		{"ababababab", dearBit, list("ababababab")},
		// A length of 10 is another price than one of 9.
		{strings.Repeat("a", 10), common, list("a", match(1, 9))},
		{strings.Repeat("a", 11), common, list("a", match(1, 10))},
		{strings.Repeat("a", 10), dearNear, list("aaaaaaaaaa")},
		{strings.Repeat("a", 11), dearNear, list("a", match(1, 10))},
		{strings.Repeat("a", 10), dearFar, list("a", match(1, 9))},
		{strings.Repeat("a", 19), dearFar, list("a", match(1, 9), match(1, 9))},
		{strings.Repeat("a", 274), dearNear, list("a", match(1, 273))},
		{strings.Repeat("a", 274), dearLit, list("a", match(1, 273))},
		{strings.Repeat("a", 547), dearLit, list("a", match(1, 273), match(1, 273))},
		{strings.Repeat("a", 274), dearMatch, lits(strings.Repeat("a", 274))},
		// Bytes are bytes.
		{"\x00\xff\x00\xff\x00", common, list("\x00\xff", match(2, 3))},
		{"\xff\xff\xff\xff\xfe", common, list("\xff", match(1, 3), "\xfe")},
	} {
		l := slices.Clone(c.want)
		if got, _ := c.table.Of(l); got != plainCost(c.text, 99, c.table) {
			t.Fatalf("%q: %v costs %d, and another one %d", c.text, l, got, plainCost(c.text, 99, c.table))
		}
		wantPlain(t, c.text, 99, c.table, c.want)
	}
}

// P16.1: at most the window back, the place just there included.
func TestWindow(t *testing.T) {
	s := "abcdXabcYabcd" // at the place 9: 3 bytes 4 back, 4 bytes 9 back
	none := lits(s)
	near := list("abcdXabcY", match(4, 3), "d")
	both := list("abcdX", match(5, 3), "Y", match(4, 3), "d")
	far := list("abcdX", match(5, 3), "Y", match(9, 4))
	for _, c := range []struct {
		window int
		want   []packet.Packet
	}{
		{math.MinInt, none}, {-1, none}, {0, none}, {1, none}, {3, none},
		{4, near}, {5, both}, {8, both},
		{9, far}, {10, far}, {api.MaxDist, far}, {math.MaxInt, far},
	} {
		wantPlain(t, s, c.window, common, c.want)
	}
}

// P16.1: without a window, bytes alone.
func TestBytesAlone(t *testing.T) {
	for _, s := range []string{"", "a", "aaaa", strings.Repeat("abc", 9), strings.Repeat("\x00", 600)} {
		for _, window := range []int{math.MinInt, -1, 0} {
			wantPlain(t, s, window, dearLit, lits(s))
		}
		wantPlain(t, s, math.MaxInt, dearMatch, lits(s))
	}
}

// P16.1: a match has at most MaxLen bytes, and what is left is told likewise.
func TestMaxLen(t *testing.T) {
	for _, c := range []struct{ n, want int }{
		{1, 10000}, {2, 20000}, {3, 10002}, {273, 10002}, {274, 10002},
		{275, 10004}, {276, 10004}, {547, 10004}, {548, 10006}, {1000, 10008},
	} {
		wantCost(t, strings.Repeat("z", c.n), 999, dearLit, c.want)
	}
	long := randomText(rand.New(rand.NewSource(1)), 280, 256)
	// Its 280 bytes again: two matches, 281 back, of 9 bits. Any two bytes are cheaper than a match.
	wantCost(t, long+"X"+long, 999, price.Table{Lit: 500, Match: 1000, Near: 10, Far: 100, Bit: 1}, 281*500+2*(1000+9)+100+10)
}

// P16.1: at most MaxDist back, however far the window reaches.
func TestMaxDist(t *testing.T) {
	bytes := lits("abcdefgh")
	for _, c := range []struct {
		dist, window int
		want         []packet.Packet
	}{
		{api.MaxDist, api.MaxDist - 1, bytes},
		{api.MaxDist, api.MaxDist, list(match(api.MaxDist, 8))},
		{api.MaxDist, math.MaxInt, list(match(api.MaxDist, 8))},
		{api.MaxDist + 1, api.MaxDist + 1, bytes},
		{api.MaxDist + 1, math.MaxInt, bytes},
	} {
		s := apart("abcdefgh", c.dist, "abcdefgh")
		l := Plain(s, c.window, common)
		wantTold(t, s, c.window, l)
		if got := l[len(l)-len(c.want):]; !slices.Equal(got, c.want) {
			t.Errorf("%d apart, window %d: %v, want %v", c.dist, c.window, got, c.want)
		}
	}
}

// P16.1: beside all pieces that there are, by all kinds of windows and tables.
func TestAgainstPlain(t *testing.T) {
	r := rand.New(rand.NewSource(2))
	windows := []int{math.MinInt, -1, 0, 1, 2, 3, 4, 7, 20, 100, math.MaxInt}
	tables := []price.Table{common, cheapLit, dearLit, dearMatch, dearNear, dearFar, dearBit}
	for i := range 3000 {
		s := randomText(r, r.Intn(120), 1+r.Intn(5))
		window, table := windows[r.Intn(len(windows))], randomTable(r)
		if i%2 == 0 {
			table = tables[r.Intn(len(tables))]
		}
		wantCost(t, s, window, table, plainCost(s, window, table))
	}
}

// P16.1: the same of texts that come back in long pieces.
func TestAgainstPlainOfLongPieces(t *testing.T) {
	r := rand.New(rand.NewSource(3))
	for i := range 80 {
		s := pieceText(r, 700)
		window, table := 1+r.Intn(900), randomTable(r)
		if i%2 == 0 {
			table = common
		}
		wantCost(t, s, window, table, plainCost(s, window, table))
	}
}

// P16.1: all texts of few bytes.
func TestAllShortTexts(t *testing.T) {
	tables := []price.Table{
		common, dearLit,
		{Lit: 10, Match: 10, Near: 10, Far: 10, Bit: 10},
		{Lit: 12, Match: 20, Near: 3, Far: 3, Bit: 1},
	}
	for n := range 9 {
		for i := range 1 << (n + n/2) {
			b := make([]byte, n)
			for k, x := 0, i; k < n; k++ {
				b[k] = "abc"[x%3]
				x /= 3
			}
			for _, table := range tables {
				wantCost(t, string(b), 9, table, plainCost(string(b), 9, table))
			}
		}
	}
}

// P16.2: worked out by hand.
func TestParse(t *testing.T) {
	for _, c := range []struct {
		text  string
		table price.Table
		want  []packet.Packet
	}{
		{"", common, nil},
		{"a", common, list("a")},
		{"aaaa", common, list("a", rep(0, 3))},
		{"aaaa", cheapLit, list("aaaa")},
		{"ababab", common, list("ab", match(2, 4))},
		{"abcXabcYabcZ", common, list("abcX", match(4, 3), "Y", rep(0, 3), "Z")},
		{"abcdabcdXXXXX", common, list("abcd", match(4, 4), "X", rep(1, 4))},
		{strings.Repeat("a", 547), dearLit, list("a", rep(0, 273), rep(0, 273))},
	} {
		if got := Parse(c.text, 99, c.table); !slices.Equal(got, c.want) {
			t.Errorf("%q: %v, want %v", c.text, got, c.want)
		}
	}
}

// P16.2: layer 6's Repeat of Plain.
func TestParseIsRepeat(t *testing.T) {
	r := rand.New(rand.NewSource(4))
	windows := []int{math.MinInt, -1, 0, 1, 2, 7, 100, math.MaxInt}
	for range 500 {
		s, window, table := pieceText(r, r.Intn(600)), windows[r.Intn(len(windows))], randomTable(r)
		got, want := Parse(s, window, table), packet.Repeat(Plain(s, window, table))
		if !slices.Equal(got, want) {
			t.Errorf("%.60q, window %d, %v: %s, want %s", s, window, table, short(got), short(want))
		}
		if u, e := packet.Apply(got, len(s)); e != api.OK || u != s {
			t.Errorf("%.60q, window %d, %v: %d bytes, %d", s, window, table, len(u), e)
		}
	}
}

// P16.1 and P16.2: of the longest texts of a block, of few pieces and of many.
func TestLongTexts(t *testing.T) {
	r := rand.New(rand.NewSource(5))
	n := api.MaxBlock
	zeros := strings.Repeat("\x00", n)
	// A byte, and as few matches as there can be.
	wantCost(t, zeros, math.MaxInt, common, 34+(n-1+272)/273*(20+36))
	some := randomText(r, 1000, 256)
	for _, s := range []string{strings.Repeat(some, n/1000), randomText(r, n, 3), randomText(r, n, 256)} {
		l := Plain(s, api.MaxDist, common)
		wantTold(t, s, api.MaxDist, l)
		if cost, ok := common.Of(l); !ok || cost > 34*len(s) {
			t.Errorf("%.60q: %d, %v", s, cost, ok)
		}
	}
}

// P16.1 and P16.2: each answer is new memory, and hangs on nothing that was asked before.
func TestAnswersAreApart(t *testing.T) {
	r := rand.New(rand.NewSource(6))
	for _, f := range []func(string, int, price.Table) []packet.Packet{Plain, Parse} {
		for range 20 {
			s, table := pieceText(r, 300), randomTable(r)
			got := f(s, 99, table)
			want := slices.Clone(got)
			clear(got[:cap(got)])
			f(s, 5, common)
			f(pieceText(r, 300), 99, table)
			if again := f(s, 99, table); !slices.Equal(again, want) {
				t.Errorf("%.60q: %s, and then %s", s, short(want), short(again))
			}
		}
	}
}
