package bst

import (
	"math"
	"math/rand"
	"slices"
	"strings"
	"testing"

	"cassone/chain"
)

// P8.1, Next: worked out by hand; of places that aren't named: none.
func TestNext(t *testing.T) {
	for _, c := range []struct {
		text string
		want map[int][]chain.Found
	}{
		{"", nil},
		{"a", nil},
		{"ab", nil},
		{"ababb", map[int][]chain.Found{2: {{Len: 2, Dist: 2}}}},
		// Fewer than two bytes are left, or fewer match.
		{"aa", nil},
		{"aba", nil},
		{"abxay", nil},
		{"aaa", map[int][]chain.Found{1: {{Len: 2, Dist: 1}}}},
		{"abab", map[int][]chain.Found{2: {{Len: 2, Dist: 2}}}},
		// They overlap, up to the text's end.
		{"aaaaa", map[int][]chain.Found{1: {{Len: 4, Dist: 1}}, 2: {{Len: 3, Dist: 1}}, 3: {{Len: 2, Dist: 1}}}},
		{"ababab", map[int][]chain.Found{2: {{Len: 4, Dist: 2}}, 3: {{Len: 3, Dist: 2}}, 4: {{Len: 2, Dist: 2}}}},
		// The nearest first; only what matches more than all nearer ones.
		{"abcdXabcYabZabcd", map[int][]chain.Found{
			5: {{Len: 3, Dist: 5}}, 6: {{Len: 2, Dist: 5}}, 9: {{Len: 2, Dist: 4}},
			12: {{Len: 2, Dist: 3}, {Len: 3, Dist: 7}, {Len: 4, Dist: 12}},
			13: {{Len: 2, Dist: 7}, {Len: 3, Dist: 12}}, 14: {{Len: 2, Dist: 12}},
		}},
		{"abXabcYabcd", map[int][]chain.Found{3: {{Len: 2, Dist: 3}}, 7: {{Len: 3, Dist: 4}}, 8: {{Len: 2, Dist: 4}}}},
		{"abcXabcYabc", map[int][]chain.Found{
			4: {{Len: 3, Dist: 4}}, 5: {{Len: 2, Dist: 4}}, 8: {{Len: 3, Dist: 4}}, 9: {{Len: 2, Dist: 4}},
		}},
		// Bytes are bytes.
		{"\x00\xff\x80\x00\xff\x7f", map[int][]chain.Found{3: {{Len: 2, Dist: 3}}}},
		{"\xff\xff\xff\xfe", map[int][]chain.Found{1: {{Len: 2, Dist: 1}}}},
	} {
		for i, l := range all(t, New(c.text, 99), c.text) {
			if !slices.Equal(l, c.want[i]) {
				t.Errorf("%q, place %d: %v, want %v", c.text, i, l, c.want[i])
			}
		}
	}
}

// at tells of one place of a text, behind all ahead of it.
func at(s string, place, window int) []chain.Found {
	f := New(s, window)
	for range place {
		f.Next()
	}
	return f.Next()
}

// P8.1: at most the window back, the place just there included.
func TestWindow(t *testing.T) {
	s := "abcdXabcYabZabcd"
	l := []chain.Found{{Len: 2, Dist: 3}, {Len: 3, Dist: 7}, {Len: 4, Dist: 12}}
	for _, c := range []struct{ window, n int }{
		{math.MinInt, 0}, {-1, 0}, {0, 0}, {1, 0}, {2, 0}, {3, 1}, {4, 1}, {6, 1}, {7, 2}, {8, 2}, {11, 2},
		{12, 3}, {13, 3}, {math.MaxInt, 3},
	} {
		if got := at(s, 12, c.window); !slices.Equal(got, l[:c.n]) {
			t.Errorf("window %d: %v, want %v", c.window, got, l[:c.n])
		}
	}
}

// P8.1: without a window nothing matches, and the finder moves on all the same.
func TestNoWindow(t *testing.T) {
	s := strings.Repeat("abc", 9)
	for _, window := range []int{math.MinInt, -1, 0} {
		for i, l := range all(t, New(s, window), s) {
			if len(l) != 0 {
				t.Errorf("window %d: at the place %d: %v", window, i, l)
			}
		}
	}
}

// P8.1: at most MaxLen bytes match; so a farther one that matches more is no longer.
func TestMaxLen(t *testing.T) {
	// No two bytes of it stand there twice.
	long := ""
	for i := range 150 {
		long += string([]byte{byte(i), 255})
	}
	for _, c := range []struct {
		text  string
		place int
		want  []chain.Found
	}{
		{long[:272] + "X" + long[:272] + "Y", 273, []chain.Found{{Len: 272, Dist: 273}}},
		{long[:273] + "X" + long[:273] + "Y", 274, []chain.Found{{Len: 273, Dist: 274}}},
		{long[:274] + "X" + long[:274] + "Y", 275, []chain.Found{{Len: 273, Dist: 275}}},
		{long + "X" + long, 301, []chain.Found{{Len: 273, Dist: 301}}},
		{long + "X" + long[:280] + "Y" + long, 582, []chain.Found{{Len: 273, Dist: 281}}},
		{long + "X" + long[:273] + "Y" + long, 575, []chain.Found{{Len: 273, Dist: 274}}},
		{long + "X" + long[:272] + "Y" + long, 574, []chain.Found{{Len: 272, Dist: 273}, {Len: 273, Dist: 574}}},
		{long + "X" + long[:273], 301, []chain.Found{{Len: 273, Dist: 301}}},
		{long + "X" + long[:272], 301, []chain.Found{{Len: 272, Dist: 301}}},
	} {
		if l := at(c.text, c.place, 9999); !slices.Equal(l, c.want) {
			t.Errorf("%d bytes, place %d: %v, want %v", len(c.text), c.place, l, c.want)
		}
	}
}

// P8.1, of nil: none, 0.
func TestNil(t *testing.T) {
	var f *Finder
	for range 3 {
		if l := f.Next(); len(l) != 0 || f.Place() != 0 {
			t.Errorf("%v, place %d", l, f.Place())
		}
	}
}

// P8.1: what was told is its caller's own; finders are apart from each other.
func TestAnswersAreApart(t *testing.T) {
	s := strings.Repeat("abcdXabcYabZabcd", 5)
	f, other := New(s, 99), New(s, 99)
	var kept [][]chain.Found
	for i := range len(s) {
		l := f.Next()
		if want := plainFound(s, i, 99); !slices.Equal(l, want) {
			t.Fatalf("place %d: %v, want %v", i, l, want)
		}
		kept = append(kept, slices.Clone(l))
		clear(l[:cap(l)])
	}
	for i, l := range all(t, other, s) {
		if !slices.Equal(l, kept[i]) {
			t.Fatalf("place %d: %v, want %v", i, l, kept[i])
		}
	}
	wantEnd(t, f, s)
}

// P8.1: beside the plain form, by all kinds of windows.
func TestAgainstPlain(t *testing.T) {
	r := rand.New(rand.NewSource(1))
	windows := []int{-1, 0, 1, 2, 3, 4, 7, 20, 100, math.MaxInt}
	for range 600 {
		s := randomText(r, r.Intn(150), 1+r.Intn(5))
		wantPlain(t, s, windows[r.Intn(len(windows))])
	}
}

// P8.1: beside the plain form, of texts that come back in long pieces: so places match MaxLen bytes, or up to the end, and one stands for both.
func TestAgainstPlainOfLongPieces(t *testing.T) {
	r := rand.New(rand.NewSource(2))
	for range 25 {
		piece := randomText(r, 1+r.Intn(700), 1+r.Intn(4))
		s := ""
		for len(s) < 1500 {
			s += piece[r.Intn(len(piece)):] + randomText(r, r.Intn(3), 4)
		}
		wantPlain(t, s, 1+r.Intn(2000))
	}
}

// P8.1: beside the plain form, of texts that come in order, and so make trees with one side.
func TestAgainstPlainOfSortedTexts(t *testing.T) {
	up, down := "", ""
	for i := range 256 {
		up += "ab" + string([]byte{byte(i)})
		down += "ab" + string([]byte{byte(255 - i)})
	}
	for _, s := range []string{up + up, down + down, up + down, down + up} {
		for _, window := range []int{3, 767, 768, 1000, 9999} {
			wantPlain(t, s, window)
		}
	}
}

// P8.1: of the longest text of a block, all of whose places match.
func TestLongText(t *testing.T) {
	s := strings.Repeat("\x00", 1<<20)
	for i, l := range all(t, New(s, math.MaxInt), s) {
		n := min(len(s)-i, 273)
		if i == 0 || n < 2 {
			n = 0
		}
		if n == 0 && len(l) != 0 || n > 0 && (len(l) != 1 || l[0] != chain.Found{Len: n, Dist: 1}) {
			t.Fatalf("place %d: %v", i, l)
		}
	}
}
