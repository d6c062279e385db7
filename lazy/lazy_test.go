package lazy

import (
	"math"
	"math/rand"
	"slices"
	"strings"
	"testing"

	"cassone/api"
	"cassone/packet"
)

// P14.1: worked out by hand, of texts where nothing is waited for.
func TestParse(t *testing.T) {
	for _, c := range []struct {
		text string
		want []packet.Packet
	}{
		{"", nil},
		{"a", list("a")},
		{"ab", list("ab")},
		{"aaa", list("aaa")},
		{"abcabcd", list("abc", match(3, 3), "d")},
		{"abxab", list("abxab")},
		{"abcXabc", list("abcX", match(4, 3))},
		// They overlap, and go up to the text's end. At first the last distances are 1.
		{"aaaa", list("a", rep(0, 3))},
		{"aaaaa", list("a", rep(0, 4))},
		{"ababab", list("ab", match(2, 4))},
		{"abcabcabcab", list("abc", match(3, 8))},
		// The longest isn't the nearest; of several as long, the nearest.
		{"abcdXabcYabcd", list("abcdX", match(5, 3), "Y", match(9, 4))},
		{"abcXabcYabcZ", list("abcX", match(4, 3), "Y", rep(0, 3), "Z")},
		// What lies within a piece is found later, too.
		{"abcdeXabcdeYbcdZ", list("abcdeX", match(6, 5), "Y", match(5, 3), "Z")},
		{"abcdabceXdabceY", list("abcd", match(4, 3), "eX", match(6, 5), "Y")},
		// Bytes are bytes.
		{"\x00\xff\x00\x00\xff\x00", list("\x00\xff\x00", match(3, 3))},
		{"\x00\x00\x00\x00", list("\x00", rep(0, 3))},
	} {
		wantParse(t, c.text, 99, 9, c.want)
	}
}

// P14.1: worked out by hand, of texts where it is better to wait, and such where it nearly is.
func TestWait(t *testing.T) {
	for _, c := range []struct {
		name, text string
		want       []packet.Packet
	}{
		{"the chapter's", "abcxbcdeabcde", list("abcxbcdea", match(5, 4))},
		{"the next is as long", "abcXbcdYabcd", list("abcXbcdY", match(8, 3), "d")},
		{"longer by one byte", "abcXbcdeYabcde", list("abcXbcdeYa", match(6, 4))},
		{"longer by several", "abcXbcdefghYabcdefgh", list("abcXbcdefghYa", match(9, 7))},
		{"and once more", "abcXbcdeYcdefgZabcdefg", list("abcXbcdeY", match(4, 3), "fgZab", match(8, 5))},
		{"only the one behind the next is longer", "abcXbcdYcdefgZabcdefg", list("abcXbcdYcdefgZ", match(14, 3), match(8, 4))},
		{"the next one's longest isn't its nearest", "abcZbcdeXbcdYabcde", list("abcZbcdeX", match(5, 3), "Ya", match(10, 4))},
		{"the place's longest isn't its nearest", "abcdWbcdeXabcYabcde", list("abcdW", match(4, 3), "eX", match(10, 3), "Y", match(14, 4), "e")},
		{"the next copies from the place itself", "aaaXaaaaaaaa", list("aaaXa", rep(0, 7))},
		{"right behind a piece", "abcXdefYefghZabcdefgh", list("abcXdefYefghZ", match(13, 3), "d", match(9, 4))},
		{"for the last distance", "abc.123_bcde;123abcde", list("abc.123_bcde;", match(9, 3), "a", rep(0, 4))},
	} {
		t.Run(c.name, func(t *testing.T) { wantParse(t, c.text, 99, 9, c.want) })
	}
}

// P14.1: all is told by the last distances, of whatever place.
func TestRepeat(t *testing.T) {
	// Behind this the last distances are 7, 6, 5 and 1.
	s := "abcde" + "abcde" + "fghijk" + "fghijk" + "lmnopqr" + "lmnopqr"
	want := list("abcde", match(5, 5), "fghijk", match(6, 6), "lmnopqr", match(7, 7))
	for _, c := range []struct {
		more string
		want []packet.Packet
	}{
		{"1234567" + "1234567", list("1234567", rep(0, 7))},
		{"123456" + "123456", list("123456", rep(1, 6))},
		{"12345" + "12345", list("12345", rep(2, 5))},
		{"1" + "1111", list("1", rep(3, 4))},
		{"1234" + "1234" + "vwxyz" + "vwxyz", list("1234", match(4, 4), "vwxyz", rep(3, 5))},
		{"1234" + "1234" + "2" + "2222", list("1234", match(4, 4), "2", match(1, 4))},
		{"12345" + "12345" + "tuvwxyz" + "tuvwxyz", list("12345", rep(2, 5), "tuvwxyz", rep(1, 7))},
	} {
		wantParse(t, s+c.more, 99, 9, slices.Concat(want, c.want))
	}
}

// P14.1: at most the window back, the place just there included; of the place and of the next one.
func TestWindow(t *testing.T) {
	s := "bcdeXabcYabcde" // at the place 9: 3 bytes 4 back, at the next one 4 bytes 10 back
	none := lits(s)
	near := list("bcdeXabcY", match(4, 3), "de")
	far := list("bcdeXabcYa", match(10, 4))
	for _, c := range []struct {
		window int
		want   []packet.Packet
	}{
		{math.MinInt, none}, {-1, none}, {0, none}, {1, none}, {3, none},
		{4, near}, {5, near}, {9, near},
		{10, far}, {11, far}, {api.MaxDist, far}, {math.MaxInt, far},
	} {
		wantParse(t, s, c.window, 9, c.want)
	}
}

// P14.1: at most cut candidates; of the place and of the next one.
func TestCut(t *testing.T) {
	s := "bcdeXbcdYabcZabcde" // at the place 14: two candidates, the last of them matches 4 bytes
	none := lits(s)
	near := list("bcdeX", match(5, 3), "YabcZ", match(4, 3), "de")
	far := list("bcdeX", match(5, 3), "YabcZa", match(14, 4))
	for _, c := range []struct {
		cut  int
		want []packet.Packet
	}{
		{math.MinInt, none}, {-1, none}, {0, none},
		{1, near},
		{2, far}, {3, far}, {math.MaxInt, far},
	} {
		wantParse(t, s, 99, c.cut, c.want)
	}
}

// P14.1: however many candidates there are.
func TestGreatCut(t *testing.T) {
	r := rand.New(rand.NewSource(5))
	var b strings.Builder
	b.WriteString("abcdefg")
	for range 2000 {
		b.WriteString("abc" + randomText(r, 1, 16))
	}
	b.WriteString("Z")
	s := b.String() + "abcdefg" // 2001 candidates, the last of them matches 7 bytes; the next place has one, of 6 bytes
	for cut, want := range map[int]int{2000: 0, 2001: 7, 2002: 7, math.MaxInt: 7} {
		l := Parse(s, math.MaxInt, cut)
		wantTold(t, s, l)
		if z := slices.Index(l, packet.Packet{Kind: packet.Lit, Byte: 'Z'}); l[z+1].Len != want {
			t.Errorf("cut %d: %v, want a length of %d", cut, l[z+1], want)
		}
	}
}

// P14.1: without a window or a cut, bytes alone.
func TestBytesAlone(t *testing.T) {
	for _, s := range []string{"", "a", strings.Repeat("abc", 9), strings.Repeat("\x00", 600)} {
		for _, v := range []int{math.MinInt, -1, 0} {
			wantParse(t, s, v, 9, lits(s))
			wantParse(t, s, 99, v, lits(s))
			wantParse(t, s, v, v, lits(s))
		}
	}
}

// P14.1: a piece has at most MaxLen bytes, and what is left is told likewise.
func TestMaxLen(t *testing.T) {
	for _, c := range []struct {
		n    int
		want []packet.Packet
	}{
		{273, list("z", rep(0, 272))},
		{274, list("z", rep(0, 273))},
		{275, list("z", rep(0, 273), "z")},
		{276, list("z", rep(0, 273), "zz")},
		{277, list("z", rep(0, 273), rep(0, 3))},
		{547, list("z", rep(0, 273), rep(0, 273))},
	} {
		wantParse(t, strings.Repeat("z", c.n), 999, 9, c.want)
	}
}

// P14.1: behind a piece of MaxLen bytes nothing is longer, as no match has more.
func TestWaitForMaxLen(t *testing.T) {
	long := randomText(rand.New(rand.NewSource(1)), 280, 256)
	for _, c := range []struct {
		n    int // how many bytes of it stand behind the first x
		want []packet.Packet
	}{
		{271, list("x", match(282, 273), rep(0, 7))},
		{272, list(match(555, 273), match(282, 8))},
	} {
		s := "x" + long[:c.n] + "Q" + long + "R" + "x" + long
		begin := list("x"+long[:c.n]+"Q", match(c.n+1, c.n), long[c.n:]+"R")
		wantParse(t, s, 9999, 9, slices.Concat(begin, c.want))
	}
}

// P14.1: at most MaxDist back, however far the window reaches; and where the farther one doesn't count, the nearer one does.
func TestMaxDist(t *testing.T) {
	for _, c := range []struct {
		dist, window int
		tail         string
		want         []packet.Packet
	}{
		{api.MaxDist, api.MaxDist - 1, "abcd", list("abcd")},
		{api.MaxDist, api.MaxDist, "abcd", list(match(api.MaxDist, 4))},
		{api.MaxDist, math.MaxInt, "abcd", list(match(api.MaxDist, 4))},
		{api.MaxDist + 1, math.MaxInt, "abcd", list("abcd")},
		{api.MaxDist - 4, math.MaxInt, "abcXabcd", list(match(api.MaxDist-4, 3), "X", match(api.MaxDist, 4))},
		{api.MaxDist - 3, math.MaxInt, "abcXabcd", list(match(api.MaxDist-3, 3), "X", match(4, 3), "d")},
	} {
		s := apart("abcd", c.dist, c.tail)
		wantParse(t, s, c.window, 9, slices.Concat(apartPackets("abcd", c.dist), c.want))
	}
}

// P14.1: for what lies farther than MaxDist it isn't waited.
func TestWaitForMaxDist(t *testing.T) {
	for _, c := range []struct {
		dist int // from the longer one to its copy, at the place behind that where abc matches
		want []packet.Packet
	}{
		{api.MaxDist, list("a", match(api.MaxDist, 4))},
		{api.MaxDist + 1, list(match(4, 3), "de")},
	} {
		begin := c.dist - len("abcXa")
		s := apart("bcde", begin, "abcXabcde")
		wantParse(t, s, math.MaxInt, 9, slices.Concat(apartPackets("bcde", begin), lits("abcX"), c.want))
	}
}

// P14.1 and P14.2: beside the plain form, by all kinds of windows and cuts.
func TestAgainstPlain(t *testing.T) {
	r := rand.New(rand.NewSource(2))
	bounds := []int{-1, 0, 1, 2, 3, 4, 7, 20, 100, math.MaxInt}
	for range 2000 {
		s := randomText(r, r.Intn(150), 1+r.Intn(5))
		window, cut := bounds[r.Intn(len(bounds))], bounds[r.Intn(len(bounds))]
		wantParse(t, s, window, cut, plainParse(s, window, cut))
	}
}

// P14.1 and P14.2: beside the plain form, of texts that come back in long pieces.
func TestAgainstPlainOfLongPieces(t *testing.T) {
	r := rand.New(rand.NewSource(3))
	for range 60 {
		s := pieceText(r, 1500)
		window, cut := 1+r.Intn(2000), 1+r.Intn(40)
		wantParse(t, s, window, cut, plainParse(s, window, cut))
	}
}

// P14.2: of the longest texts of a block, of few pieces and of many.
func TestLongTexts(t *testing.T) {
	r := rand.New(rand.NewSource(4))
	for _, c := range []struct {
		text        string
		window, cut int
	}{
		{strings.Repeat("\x00", api.MaxBlock), math.MaxInt, math.MaxInt},
		{strings.Repeat("abcdefg", api.MaxBlock/7), api.MaxDist, math.MaxInt},
		{randomText(r, api.MaxBlock, 3), api.MaxDist, 16},
		{randomText(r, api.MaxBlock, 256), api.MaxDist, 1000},
	} {
		wantTold(t, c.text, Parse(c.text, c.window, c.cut))
	}
}

// P14.1: each answer is new memory, and hangs on nothing that was asked before.
func TestAnswersAreApart(t *testing.T) {
	s := strings.Repeat("abcdXabcYbcde", 5)
	want := plainParse(s, 99, 9)
	got := Parse(s, 99, 9)
	wantParse(t, s, 99, 9, want)
	clear(got[:cap(got)])
	wantParse(t, s, 99, 9, want)
}
