package chain

import (
	"math"
	"math/rand"
	"slices"
	"strings"
	"testing"
)

// P7.1, Next: worked out by hand; of places that aren't named: none.
func TestNext(t *testing.T) {
	for _, c := range []struct {
		text        string
		window, cut int
		want        map[int][]Found
	}{
		{"", 99, 9, nil},
		{"a", 99, 9, nil},
		{"ab", 99, 9, nil},
		{"abc", 99, 9, nil},
		{"abcabcd", 99, 9, map[int][]Found{3: {{3, 3}}}},
		// Fewer than three bytes are left, or fewer match.
		{"aba", 99, 9, nil},
		{"abab", 99, 9, nil},
		{"abcab", 99, 9, nil},
		{"abcabx", 99, 9, nil},
		{"aaa", 99, 9, nil},
		{"abcabc", 99, 9, map[int][]Found{3: {{3, 3}}}},
		// They overlap, up to the text's end.
		{"aaaa", 99, 9, map[int][]Found{1: {{3, 1}}}},
		{"aaaaa", 99, 9, map[int][]Found{1: {{4, 1}}, 2: {{3, 1}}}},
		{"ababab", 99, 9, map[int][]Found{2: {{4, 2}}, 3: {{3, 2}}}},
		// The nearest first; only what matches more than all ahead of it.
		{"abcdXabcYabcd", 99, 9, map[int][]Found{5: {{3, 5}}, 9: {{3, 4}, {4, 9}}, 10: {{3, 9}}}},
		{"abcXabcdYabcd", 99, 9, map[int][]Found{4: {{3, 4}}, 9: {{4, 5}}, 10: {{3, 5}}}},
		{"abcdXabcdYabcd", 99, 9, map[int][]Found{5: {{4, 5}}, 6: {{3, 5}}, 10: {{4, 5}}, 11: {{3, 5}}}},
		{"abcdeXabcYabcdZabcde", 99, 9, map[int][]Found{
			6: {{3, 6}}, 10: {{3, 4}, {4, 10}}, 11: {{3, 10}},
			15: {{4, 5}, {5, 15}}, 16: {{3, 5}, {4, 15}}, 17: {{3, 15}},
		}},
		// Bytes are bytes.
		{"\x00\xff\x00\x00\xff\x00", 99, 9, map[int][]Found{3: {{3, 3}}}},
		{"\xff\xff\xff\xff\xfe", 99, 9, map[int][]Found{1: {{3, 1}}}},
	} {
		for i, l := range all(t, New(c.text, c.window, c.cut), c.text) {
			if !slices.Equal(l, c.want[i]) {
				t.Errorf("%q, place %d: %v, want %v", c.text, i, l, c.want[i])
			}
		}
	}
}

// at tells of one place of a text, behind all ahead of it.
func at(s string, place, window, cut int) []Found {
	f := New(s, window, cut)
	for range place {
		f.Next()
	}
	return f.Next()
}

// P7.1: at most the window back, the place just there included.
func TestWindow(t *testing.T) {
	s := "abcdXabcYabcd" // of the place 9: 3 bytes 4 back, 4 bytes 9 back
	near, far := Found{3, 4}, Found{4, 9}
	for _, c := range []struct {
		window int
		want   []Found
	}{
		{math.MinInt, nil}, {-1, nil}, {0, nil}, {1, nil}, {3, nil},
		{4, []Found{near}}, {5, []Found{near}}, {8, []Found{near}},
		{9, []Found{near, far}}, {10, []Found{near, far}}, {math.MaxInt, []Found{near, far}},
	} {
		if l := at(s, 9, c.window, 9); !slices.Equal(l, c.want) {
			t.Errorf("window %d: %v, want %v", c.window, l, c.want)
		}
	}
}

// P7.1: at most cut candidates, also those that match no more than others.
func TestCut(t *testing.T) {
	s := "abcdXabcYabcZabcd" // of the place 13: three candidates, the last of them matches 4 bytes
	near, far := Found{3, 4}, Found{4, 13}
	for _, c := range []struct {
		cut  int
		want []Found
	}{
		{math.MinInt, nil}, {-1, nil}, {0, nil},
		{1, []Found{near}}, {2, []Found{near}},
		{3, []Found{near, far}}, {4, []Found{near, far}}, {math.MaxInt, []Found{near, far}},
	} {
		if l := at(s, 13, 99, c.cut); !slices.Equal(l, c.want) {
			t.Errorf("cut %d: %v, want %v", c.cut, l, c.want)
		}
	}
}

// P7.1: without a window or a cut, nothing matches, and the finder moves on all the same.
func TestNoCandidates(t *testing.T) {
	s := strings.Repeat("abc", 9)
	for _, v := range []int{math.MinInt, -1, 0} {
		for _, f := range []*Finder{New(s, v, 9), New(s, 99, v), New(s, v, v)} {
			for i, l := range all(t, f, s) {
				if len(l) != 0 {
					t.Errorf("%d: at the place %d: %v", v, i, l)
				}
			}
		}
	}
}

// P7.1: at most MaxLen bytes match; so a farther one that matches more is no longer.
func TestMaxLen(t *testing.T) {
	long := randomText(rand.New(rand.NewSource(1)), 300, 256)
	for _, c := range []struct {
		text  string
		place int
		want  []Found
	}{
		{long[:272] + "X" + long[:272] + "Y", 273, []Found{{272, 273}}},
		{long[:273] + "X" + long[:273] + "Y", 274, []Found{{273, 274}}},
		{long[:274] + "X" + long[:274] + "Y", 275, []Found{{273, 275}}},
		{long + "X" + long, 301, []Found{{273, 301}}},
		{long + "X" + long[:280] + "Y" + long, 582, []Found{{273, 281}}},
		{long + "X" + long[:273] + "Y" + long, 575, []Found{{273, 274}}},
		{long + "X" + long[:272] + "Y" + long, 574, []Found{{272, 273}, {273, 574}}},
		{long + "X" + long[:273], 301, []Found{{273, 301}}},
		{long + "X" + long[:272], 301, []Found{{272, 301}}},
	} {
		if l := at(c.text, c.place, 9999, 9); !slices.Equal(l, c.want) {
			t.Errorf("%d bytes, place %d: %v, want %v", len(c.text), c.place, l, c.want)
		}
	}
}

// P7.1, of nil: none, 0.
func TestNil(t *testing.T) {
	var f *Finder
	for range 3 {
		if l := f.Next(); len(l) != 0 || f.Place() != 0 {
			t.Errorf("%v, place %d", l, f.Place())
		}
	}
}

// P7.1: what was told is its caller's own; finders are apart from each other.
func TestAnswersAreApart(t *testing.T) {
	s := strings.Repeat("abcdXabcYabcd", 5)
	f, other := New(s, 99, 9), New(s, 99, 9)
	var kept [][]Found
	for i := range len(s) {
		l := f.Next()
		if want := plainFound(s, i, 99, 9); !slices.Equal(l, want) {
			t.Fatalf("place %d: %v, want %v", i, l, want)
		}
		kept = append(kept, slices.Clone(l))
		clear(l[:cap(l)])
	}
	for i, l := range all(t, other, s) {
		if !slices.Equal(l, kept[i]) {
			t.Fatalf("place %d: %v, want %v", i, l, kept[i])
		}
	}
	wantEnd(t, f, s)
}

// P7.1: beside the plain form, by all kinds of windows and cuts.
func TestAgainstPlain(t *testing.T) {
	r := rand.New(rand.NewSource(2))
	bounds := []int{-1, 0, 1, 2, 3, 4, 7, 20, 100, math.MaxInt}
	for range 400 {
		s := randomText(r, r.Intn(150), 1+r.Intn(5))
		wantPlain(t, s, bounds[r.Intn(len(bounds))], bounds[r.Intn(len(bounds))])
	}
}

// P7.1: beside the plain form, of texts that come back in long pieces.
func TestAgainstPlainOfLongPieces(t *testing.T) {
	r := rand.New(rand.NewSource(3))
	for range 12 {
		piece := randomText(r, 1+r.Intn(500), 1+r.Intn(3))
		s := ""
		for len(s) < 1500 {
			s += piece[r.Intn(len(piece)):] + randomText(r, r.Intn(3), 4)
		}
		wantPlain(t, s, 1+r.Intn(2000), 1+r.Intn(40))
	}
}

// P7.1: of the longest text of a block, all of whose places are candidates.
func TestLongText(t *testing.T) {
	s := strings.Repeat("\x00", 1<<20)
	for i, l := range all(t, New(s, math.MaxInt, math.MaxInt), s) {
		n := min(len(s)-i, 273)
		if i == 0 || n < 3 {
			n = 0
		}
		if n == 0 && len(l) != 0 || n > 0 && (len(l) != 1 || l[0] != Found{n, 1}) {
			t.Fatalf("place %d: %v", i, l)
		}
	}
}
