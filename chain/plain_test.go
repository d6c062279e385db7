package chain

import (
	"math/rand"
	"slices"
	"testing"
)

// plainMatch is how many bytes match at a place from so far back, as the chapter says it.
func plainMatch(s string, place, dist int) int {
	n := 0
	for n < 273 && place+n < len(s) && s[place+n] == s[place-dist+n] {
		n++
	}
	return n
}

// plainFound is what Next tells of a place, as the chapter says it.
func plainFound(s string, place, window, cut int) []Found {
	var l []Found
	longest, candidates := 0, 0
	for dist := 1; dist <= min(place, window) && candidates < cut; dist++ {
		if place+3 > len(s) || s[place:place+3] != s[place-dist:place-dist+3] {
			continue
		}
		candidates++
		if n := plainMatch(s, place, dist); n > longest {
			longest = n
			l = append(l, Found{n, dist})
		}
	}
	return l
}

// all that a finder tells, place by place, up to the text's end.
func all(t *testing.T, f *Finder, s string) [][]Found {
	t.Helper()
	var l [][]Found
	for i := range len(s) {
		if f.Place() != i {
			t.Fatalf("place %d, want %d", f.Place(), i)
		}
		l = append(l, f.Next())
	}
	wantEnd(t, f, s)
	return l
}

// wantEnd says whether a finder stays at the text's end.
func wantEnd(t *testing.T, f *Finder, s string) {
	t.Helper()
	for range 3 {
		if f.Place() != len(s) {
			t.Fatalf("place %d, want the end, %d", f.Place(), len(s))
		}
		if l := f.Next(); len(l) != 0 {
			t.Fatalf("at the end: %v", l)
		}
	}
}

// wantPlain holds a finder against the plain form, at all places of a text.
func wantPlain(t *testing.T, s string, window, cut int) {
	t.Helper()
	for i, l := range all(t, New(s, window, cut), s) {
		if want := plainFound(s, i, window, cut); !slices.Equal(l, want) {
			t.Fatalf("%.40q, window %d, cut %d, place %d: %v, want %v", s, window, cut, i, l, want)
		}
	}
}

func randomText(r *rand.Rand, n, kinds int) string {
	b := make([]byte, n)
	for i := range b {
		b[i] = byte(r.Intn(kinds))
	}
	return string(b)
}
