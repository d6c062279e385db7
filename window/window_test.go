package window

import (
	"math"
	"math/rand"
	"strings"
	"testing"
)

// filled is a window of at most most bytes that has s.
func filled(t *testing.T, s string, most int) *Window {
	t.Helper()
	w := New(most)
	for i := range len(s) {
		if !w.Put(s[i]) {
			t.Fatalf("no room for byte %d of %q in %d", i, s, most)
		}
	}
	return w
}

// wantText holds all that a window tells of its text against s.
func wantText(t *testing.T, w *Window, s string) {
	t.Helper()
	if w.Text() != s || w.Len() != len(s) {
		t.Fatalf("%q of length %d, want %q", w.Text(), w.Len(), s)
	}
	for i := range len(s) {
		if b, ok := w.At(len(s) - i); !ok || b != s[i] {
			t.Fatalf("At(%d) = %d, %v, want %d", len(s)-i, b, ok, s[i])
		}
	}
}

// P2.1, New: no bytes, whatever most is.
func TestNewIsEmpty(t *testing.T) {
	for _, most := range []int{math.MinInt, -1, 0, 1, 1 << 24, math.MaxInt} {
		w := New(most)
		wantText(t, w, "")
		if _, ok := w.At(1); ok || w.Copy(1, 0) || w.Copy(1, 1) || w.Copy(0, 0) {
			t.Errorf("most %d: a byte in a new window", most)
		}
	}
}

// P2.1, Put: up to most bytes, 0 of them where most is below 0; then nothing happens.
func TestPutUpToMost(t *testing.T) {
	for _, c := range []struct{ most, room int }{
		{math.MinInt, 0}, {-1, 0}, {0, 0}, {1, 1}, {2, 2}, {5, 5}, {300, 300},
	} {
		w := New(c.most)
		want := ""
		for i := range c.room {
			if !w.Put(byte(i)) {
				t.Fatalf("most %d: no room at %d", c.most, i)
			}
			want += string([]byte{byte(i)})
		}
		for range 3 {
			if w.Put('x') {
				t.Errorf("most %d: room for more", c.most)
			}
		}
		wantText(t, w, want)
	}
}

// P2.1, Put: of a most that nobody could fill there is room all the same.
func TestPutWithGreatestMost(t *testing.T) {
	wantText(t, filled(t, "ab\x00\xff", math.MaxInt), "ab\x00\xff")
}

// P2.1, Copy: also of what it put itself.
func TestCopy(t *testing.T) {
	for _, c := range []struct {
		text    string
		dist, n int
		want    string
	}{
		{"ab", 2, 3, "ababa"},
		{"ab", 2, 1, "aba"},
		{"ab", 2, 2, "abab"},
		{"ab", 1, 3, "abbbb"},
		{"a", 1, 9, "aaaaaaaaaa"},
		{"abcdef", 6, 3, "abcdefabc"},
		{"abcdef", 4, 2, "abcdefcd"},
		{"abc", 3, 7, "abcabcabca"},
		{"abc", 3, 0, "abc"},
		{"abc", 1, 0, "abc"},
	} {
		w := filled(t, c.text, 10)
		if !w.Copy(c.dist, c.n) {
			t.Errorf("%q: no Copy(%d, %d)", c.text, c.dist, c.n)
		}
		wantText(t, w, c.want)
	}
}

// P2.1, Copy: false, and nothing happens.
func TestCopyRefused(t *testing.T) {
	for _, c := range []struct {
		text          string
		most, dist, n int
	}{
		{"abc", 10, 0, 1},
		{"abc", 10, -1, 1},
		{"abc", 10, 4, 1},
		{"abc", 10, 4, 0},
		{"abc", 10, 0, 0},
		{"abc", 10, math.MaxInt, 1},
		{"abc", 10, math.MinInt, 1},
		{"abc", 10, 1, -1},
		{"abc", 10, 3, math.MinInt},
		{"abc", 10, 1, 8},
		{"abc", 10, 1, math.MaxInt},
		{"abc", 10, 3, math.MaxInt - 2},
		{"abc", 3, 1, 1},
		{"abc", math.MaxInt, 1, math.MaxInt},
		{"abc", math.MaxInt, 1, math.MaxInt - 2},
		{"", 10, 1, 0},
		{"", 10, 0, 0},
		{"", 0, 1, 1},
	} {
		w := filled(t, c.text, c.most)
		if w.Copy(c.dist, c.n) {
			t.Errorf("%q of %d: Copy(%d, %d) is true", c.text, c.most, c.dist, c.n)
		}
		wantText(t, w, c.text)
	}
}

// P2.1, Copy: just up to most; a full window still copies nothing.
func TestCopyFillsTheRoom(t *testing.T) {
	w := filled(t, "abc", 10)
	if w.Copy(3, 8) || !w.Copy(3, 7) {
		t.Error("room for seven bytes")
	}
	wantText(t, w, "abcabcabca")
	if w.Put('x') || w.Copy(1, 1) || !w.Copy(1, 0) || !w.Copy(10, 0) || w.Copy(11, 0) {
		t.Error("a full window")
	}
	wantText(t, w, "abcabcabca")
}

// P2.1, At: 0 and false beyond what there is.
func TestAt(t *testing.T) {
	w := filled(t, "xyz", 3)
	for _, c := range []struct {
		dist int
		b    byte
		ok   bool
	}{
		{1, 'z', true}, {2, 'y', true}, {3, 'x', true},
		{0, 0, false}, {-1, 0, false}, {4, 0, false}, {math.MaxInt, 0, false}, {math.MinInt, 0, false},
	} {
		if b, ok := w.At(c.dist); b != c.b || ok != c.ok {
			t.Errorf("At(%d) = %d, %v", c.dist, b, ok)
		}
	}
	wantText(t, w, "xyz")
}

// P2.1, Text: what was told stays as it was; windows are apart from each other.
func TestTextStays(t *testing.T) {
	w, other := filled(t, "ab", 100), filled(t, "cd", 100)
	before := w.Text()
	w.Put('x')
	w.Copy(1, 20)
	if before != "ab" {
		t.Errorf("%q", before)
	}
	wantText(t, w, "abx"+strings.Repeat("x", 20))
	wantText(t, other, "cd")
}

// P2.1, of nil: false, 0, the empty text.
func TestNil(t *testing.T) {
	var w *Window
	for _, v := range []int{math.MinInt, -1, 0, 1, math.MaxInt} {
		if b, ok := w.At(v); b != 0 || ok || w.Copy(v, 0) || w.Copy(1, v) || w.Copy(0, v) {
			t.Errorf("a byte of nil, at %d", v)
		}
	}
	if w.Put('a') || w.Len() != 0 || w.Text() != "" {
		t.Error("bytes of nil")
	}
}

// slowCopy is Copy as the document says it, on a text.
func slowCopy(s string, most, dist, n int) (string, bool) {
	if dist < 1 || dist > len(s) || n < 0 || len(s)+n > most {
		return s, false
	}
	for range n {
		s += s[len(s)-dist : len(s)-dist+1]
	}
	return s, true
}

// P2.1: many calls in a row, beside a plain text.
func TestAgainstPlainText(t *testing.T) {
	r := rand.New(rand.NewSource(1))
	for range 200 {
		most := r.Intn(120)
		w, s := New(most), ""
		for range 60 {
			if r.Intn(3) == 0 {
				b := byte(r.Intn(256))
				if got, want := w.Put(b), len(s) < most; got != want {
					t.Fatalf("Put behind %d of %d: %v", len(s), most, got)
				}
				if len(s) < most {
					s += string([]byte{b})
				}
			} else {
				dist, n := r.Intn(len(s)+4)-1, r.Intn(14)-2
				next, want := slowCopy(s, most, dist, n)
				if got := w.Copy(dist, n); got != want {
					t.Fatalf("Copy(%d, %d) behind %d of %d: %v", dist, n, len(s), most, got)
				}
				s = next
			}
			wantText(t, w, s)
		}
	}
}
