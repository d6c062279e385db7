package greedy

import (
	"math"
	"math/rand"
	"slices"
	"strings"
	"testing"

	"cassone/api"
	"cassone/packet"
)

// P13.1: worked out by hand.
func TestParse(t *testing.T) {
	for _, c := range []struct {
		text string
		want []packet.Packet
	}{
		{"", nil},
		{"a", list("a")},
		{"ab", list("ab")},
		{"aaa", list("aaa")},
		{"abcabcd", list("abc", match(3, 3), "d")},
		// The longest, even where the next place has a longer one.
		{"abcxbcdeabcde", list("abcxbcde", match(8, 3), "de")},
		// A match of two bytes isn't one.
		{"abxab", list("abxab")},
		{"abxaby", list("abxaby")},
		{"abcabxcab", list("abcabx", match(4, 3))},
		// They overlap, and go up to the text's end. At first the last distances are 1.
		{"aaaa", list("a", rep(0, 3))},
		{"ababab", list("ab", match(2, 4))},
		{"abcabcabcab", list("abc", match(3, 8))},
		// The longest isn't the nearest.
		{"abcdXabcYabcd", list("abcdX", match(5, 3), "Y", match(9, 4))},
		// Of several as long, the nearest.
		{"abcXabcYabcZ", list("abcX", match(4, 3), "Y", rep(0, 3), "Z")},
		// What lies within a piece is found later, too.
		{"abcdeXabcdeYbcdZ", list("abcdeX", match(6, 5), "Y", match(5, 3), "Z")},
		{"aaaaaXaaaaY", list("a", rep(0, 4), "X", match(5, 4), "Y")},
		// Also what begins within one and goes on behind it.
		{"abcdabceXdabceY", list("abcd", match(4, 3), "eX", match(6, 5), "Y")},
		// One piece stands at the end of another.
		{"abcdefXabcYdefXabcdefX", list("abcdefX", match(7, 3), "Y", match(8, 7), rep(1, 4))},
		// The last distances again.
		{"abcXabcYabcZYabc", list("abcX", match(4, 3), "Y", rep(0, 3), "Z", match(5, 4))},
		{"abcabcXXabcabcX", list("abc", match(3, 3), "XX", match(8, 7))},
		{"abcdXabcXabcdXabc", list("abcdX", match(5, 3), match(4, 4), match(9, 5))},
		{"abcYabcabcYabc", list("abcY", match(4, 3), match(7, 7))},
		{"abcabcYYYYYabcYabcYYYYY", list("abc", match(3, 3), "Y", rep(1, 4), match(8, 4), match(12, 8))},
		{"abcabcwxyz1wxyz1abcwxyz", list("abc", match(3, 3), "wxyz1", match(5, 5), match(13, 7))},
		{"abcabc1234512345abcabc6", list("abc", match(3, 3), "12345", match(5, 5), match(16, 6), "6")},
		// Bytes are bytes.
		{"\x00\xff\x00\x00\xff\x00", list("\x00\xff\x00", match(3, 3))},
		{"\xff\xff\xff\xff\xfe", list("\xff", rep(0, 3), "\xfe")},
		{"\x00\x00\x00\x00", list("\x00", rep(0, 3))},
	} {
		wantParse(t, c.text, 99, 9, c.want)
	}
}

// P13.1: all is told by the last distances, of whatever place.
func TestRepeat(t *testing.T) {
	// Behind this the last distances are 7, 6, 5 and 1.
	s := "abcde" + "abcde" + "fghijk" + "fghijk" + "lmnopqr" + "lmnopqr"
	want := list("abcde", match(5, 5), "fghijk", match(6, 6), "lmnopqr", match(7, 7))
	for _, c := range []struct {
		more string
		want []packet.Packet
	}{
		{"1234567" + "1234567", list("1234567", rep(0, 7))},
		{"123456" + "123456", list("123456", rep(1, 6))},
		{"12345" + "12345", list("12345", rep(2, 5))},
		{"1" + "1111", list("1", rep(3, 4))},
		{"1234" + "1234", list("1234", match(4, 4))},
		{"1234" + "1234" + "vwxyz" + "vwxyz", list("1234", match(4, 4), "vwxyz", rep(3, 5))},
		{"1234" + "1234" + "2" + "2222", list("1234", match(4, 4), "2", match(1, 4))},
		{"12345" + "12345" + "tuvwxyz" + "tuvwxyz", list("12345", rep(2, 5), "tuvwxyz", rep(1, 7))},
	} {
		wantParse(t, s+c.more, 99, 9, slices.Concat(want, c.want))
	}
}

// P13.1: at most the window back, the place just there included.
func TestWindow(t *testing.T) {
	s := "abcdXabcYabcd" // at the place 9: 3 bytes 4 back, 4 bytes 9 back
	none := lits(s)
	near := list("abcdXabcY", match(4, 3), "d")
	both := list("abcdX", match(5, 3), "Y", match(4, 3), "d")
	far := list("abcdX", match(5, 3), "Y", match(9, 4))
	for _, c := range []struct {
		window int
		want   []packet.Packet
	}{
		{math.MinInt, none}, {-1, none}, {0, none}, {1, none}, {3, none},
		{4, near}, {5, both}, {8, both},
		{9, far}, {10, far}, {api.MaxDist, far}, {math.MaxInt, far},
	} {
		wantParse(t, s, c.window, 9, c.want)
	}
}

// P13.1: at most cut candidates.
func TestCut(t *testing.T) {
	s := "abcdXabcYabcZabcd" // at the place 13: three candidates, the last of them matches 4 bytes
	none := lits(s)
	begin := list("abcdX", match(5, 3), "Y", match(4, 3), "Z")
	near := slices.Concat(begin, list(rep(0, 3), "d"))
	far := slices.Concat(begin, list(match(13, 4)))
	for _, c := range []struct {
		cut  int
		want []packet.Packet
	}{
		{math.MinInt, none}, {-1, none}, {0, none},
		{1, near}, {2, near},
		{3, far}, {4, far}, {math.MaxInt, far},
	} {
		wantParse(t, s, 99, c.cut, c.want)
	}
}

// P13.1: however many candidates there are.
func TestGreatCut(t *testing.T) {
	r := rand.New(rand.NewSource(5))
	var b strings.Builder
	b.WriteString("abcdefg")
	for range 2000 {
		b.WriteString("abc" + randomText(r, 1, 16))
	}
	b.WriteString("Z")
	s := b.String() + "abcdefg" // 2001 candidates, the last of them matches 7 bytes
	for cut, want := range map[int]int{2000: 3, 2001: 7, 2002: 7, math.MaxInt: 7} {
		l := Parse(s, math.MaxInt, cut)
		wantTold(t, s, l)
		if z := slices.Index(l, packet.Packet{Kind: packet.Lit, Byte: 'Z'}); l[z+1].Len != want {
			t.Errorf("cut %d: %v, want a length of %d", cut, l[z+1], want)
		}
	}
}

// P13.1: without a window or a cut, bytes alone.
func TestBytesAlone(t *testing.T) {
	for _, s := range []string{"", "a", strings.Repeat("abc", 9), strings.Repeat("\x00", 600)} {
		for _, v := range []int{math.MinInt, -1, 0} {
			wantParse(t, s, v, 9, lits(s))
			wantParse(t, s, 99, v, lits(s))
			wantParse(t, s, v, v, lits(s))
		}
	}
}

// P13.1: a piece has at most MaxLen bytes, and what is left is told likewise.
func TestMaxLen(t *testing.T) {
	for _, c := range []struct {
		n    int
		want []packet.Packet
	}{
		{273, list("z", rep(0, 272))},
		{274, list("z", rep(0, 273))},
		{275, list("z", rep(0, 273), "z")},
		{276, list("z", rep(0, 273), "zz")},
		{277, list("z", rep(0, 273), rep(0, 3))},
		{547, list("z", rep(0, 273), rep(0, 273))},
		{548, list("z", rep(0, 273), rep(0, 273), "z")},
	} {
		wantParse(t, strings.Repeat("z", c.n), 999, 9, c.want)
	}
	long := randomText(rand.New(rand.NewSource(1)), 280, 256)
	wantParse(t, long+"X"+long, 999, 9, slices.Concat(lits(long+"X"), list(match(281, 273), rep(0, 7))))
}

// P13.1: at most MaxDist back, however far the window reaches; and where the farther one doesn't count, the nearer one does.
func TestMaxDist(t *testing.T) {
	for _, c := range []struct {
		dist, window int
		tail         string
		want         []packet.Packet
	}{
		{api.MaxDist, api.MaxDist - 1, "abcd", list("abcd")},
		{api.MaxDist, api.MaxDist, "abcd", list(match(api.MaxDist, 4))},
		{api.MaxDist, math.MaxInt, "abcd", list(match(api.MaxDist, 4))},
		{api.MaxDist + 1, api.MaxDist + 1, "abcd", list("abcd")},
		{api.MaxDist + 1, math.MaxInt, "abcd", list("abcd")},
		{api.MaxDist - 4, math.MaxInt, "abcXabcd", list(match(api.MaxDist-4, 3), "X", match(api.MaxDist, 4))},
		{api.MaxDist - 3, math.MaxInt, "abcXabcd", list(match(api.MaxDist-3, 3), "X", match(4, 3), "d")},
	} {
		s := apart("abcd", c.dist, c.tail)
		wantParse(t, s, c.window, 9, slices.Concat(apartPackets("abcd", c.dist), c.want))
	}
}

// P13.1 and P13.2: beside the plain form, by all kinds of windows and cuts.
func TestAgainstPlain(t *testing.T) {
	r := rand.New(rand.NewSource(2))
	bounds := []int{-1, 0, 1, 2, 3, 4, 7, 20, 100, math.MaxInt}
	for range 2000 {
		s := randomText(r, r.Intn(150), 1+r.Intn(5))
		window, cut := bounds[r.Intn(len(bounds))], bounds[r.Intn(len(bounds))]
		wantParse(t, s, window, cut, plainParse(s, window, cut))
	}
}

// P13.1 and P13.2: beside the plain form, of texts that come back in long pieces.
func TestAgainstPlainOfLongPieces(t *testing.T) {
	r := rand.New(rand.NewSource(3))
	for range 60 {
		s := pieceText(r, 1500)
		window, cut := 1+r.Intn(2000), 1+r.Intn(40)
		wantParse(t, s, window, cut, plainParse(s, window, cut))
	}
}

// P13.2: of the longest texts of a block, of few pieces and of many.
func TestLongTexts(t *testing.T) {
	r := rand.New(rand.NewSource(4))
	for _, c := range []struct {
		text        string
		window, cut int
	}{
		{strings.Repeat("\x00", api.MaxBlock), math.MaxInt, math.MaxInt},
		{strings.Repeat("abcdefg", api.MaxBlock/7), api.MaxDist, math.MaxInt},
		{randomText(r, api.MaxBlock, 3), api.MaxDist, 16},
		{randomText(r, api.MaxBlock, 256), api.MaxDist, 1000},
	} {
		wantTold(t, c.text, Parse(c.text, c.window, c.cut))
	}
}

// P13.1: each answer is new memory, and hangs on nothing that was asked before.
func TestAnswersAreApart(t *testing.T) {
	s := strings.Repeat("abcdXabcYabcd", 5)
	want := plainParse(s, 99, 9)
	got := Parse(s, 99, 9)
	wantParse(t, s, 99, 9, want)
	clear(got[:cap(got)])
	wantParse(t, s, 99, 9, want)
}
