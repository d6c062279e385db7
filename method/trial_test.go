package method

import (
	"math/rand"
	"strings"
	"sync"
	"testing"
	"testing/synctest"
)

// wantTry: what the chapter says, and that it tells the text.
func wantTry(t *testing.T, s string, o Options) (uint8, string) {
	t.Helper()
	want, wantData := plainTry(s, o)
	m, data := Try(s, o)
	if m != want || data != wantData {
		t.Fatalf("Try(%.60q, %+v): %d, %.60x, want %d, %.60x", s, o, m, data, want, wantData)
	}
	wantUndo(t, m, data, len(s), len(s), s)
	return m, data
}

// P20.1: the chapter's example.
func TestTryEmpty(t *testing.T) {
	r := rand.New(rand.NewSource(1))
	for range 50 {
		if m, data := Try("", anyOptions(r)); m != Stored || data != "" {
			t.Errorf("%d, %x", m, data)
		}
	}
}

// P20.1: short texts, and such as are told by the fewest bytes.
func TestTryShort(t *testing.T) {
	for mask := range 4 {
		for level := range 3 {
			o := Common()
			o.Mask, o.Level = mask, level
			for n := range 60 {
				wantTry(t, strings.Repeat("\x00", n), o)
				wantTry(t, strings.Repeat("a", n), o)
				wantTry(t, strings.Repeat("ab", n), o)
			}
			wantTry(t, strings.Repeat("\x00", 3000), o)
		}
	}
}

// P20.1: texts for which each of the methods is the best one.
func TestTryEach(t *testing.T) {
	r := rand.New(rand.NewSource(2))
	random := make([]byte, 400)
	r.Read(random)
	few := make([]byte, 400)
	for i := range few {
		few[i] = byte(min(r.Intn(6), r.Intn(6)))
	}
	for want, s := range []string{string(random), strings.Repeat(string(random[:300]), 9), string(few)} {
		if m, _ := wantTry(t, s, Common()); int(m) != want {
			t.Errorf("%d, want %d", m, want)
		}
	}
}

// P20.1: of several the least one.
func TestTryEven(t *testing.T) {
	r := rand.New(rand.NewSource(3))
	even := 0
	for range 3000 {
		o := anyOptions(r)
		o.Mask = 3
		s := anyText(r, 20+r.Intn(100))
		lz, lzOk := plainCode(s, Lz, o)
		ppm, ppmOk := plainCode(s, Ppm, o)
		m, _ := wantTry(t, s, o)
		if lzOk && ppmOk && len(lz) == len(ppm) {
			even++
			if m != Lz {
				t.Errorf("method %d, of those that have %d bytes each", m, len(lz))
			}
		}
	}
	if even < 20 {
		t.Error(even)
	}
}

// P20.1, P20.3: texts and options of all kinds, beside the plain form.
func TestTryAgainstPlain(t *testing.T) {
	r := rand.New(rand.NewSource(4))
	var met [3]int
	for range 1500 {
		m, _ := wantTry(t, anyText(r, r.Intn(600)), anyOptions(r))
		met[m]++
	}
	if met[Stored] < 50 || met[Lz] < 50 || met[Ppm] < 50 {
		t.Error(met)
	}
}

// Rules: no worker stays behind, also where none is waited for.
func TestTryEnds(t *testing.T) {
	for _, s := range []string{"", "a", "abcdef", "abcdefg", strings.Repeat("a", 500)} {
		for mask := range 4 {
			synctest.Test(t, func(t *testing.T) {
				o := Common()
				o.Mask = mask
				wantTry(t, s, o)
			})
		}
	}
}

// Rules: many that try beside one another tell what one alone tells.
func TestTryBeside(t *testing.T) {
	s := strings.Repeat("many that try beside one another; ", 30)
	want, wantData := Try(s, Common())
	var all sync.WaitGroup
	for range 40 {
		all.Go(func() {
			if m, data := Try(s, Common()); m != want || data != wantData {
				t.Errorf("%d, %x, want %d, %x", m, data, want, wantData)
			}
		})
	}
	all.Wait()
}
