package rc

import (
	"math/rand"
	"slices"
	"testing"
)

// decodeStep holds what is decoded against the step that was encoded.
func decodeStep(t *testing.T, d *Decoder, probs []uint16, s step) {
	t.Helper()
	switch s.kind {
	case bitStep:
		if got := d.Bit(&probs[s.which]); got != s.bit {
			t.Fatalf("bit %d, want %d", got, s.bit)
		}
	case directStep:
		want := uint32(uint64(s.v) & (1<<s.n - 1))
		if got := d.Direct(s.n); got != want {
			t.Fatalf("%d direct bits: %x, want %x", s.n, got, want)
		}
	case partStep:
		if w := d.Where(s.total); w < s.start || w-s.start >= s.size {
			t.Fatalf("where: %d, not in %+v", w, s)
		}
		d.Take(s.start, s.size)
	}
}

// wantBack encodes all steps, and decodes them again.
func wantBack(t *testing.T, l []step) {
	t.Helper()
	e, probs := NewEncoder(), edgeProbs()
	for _, s := range l {
		encodeStep(e, probs, s)
	}
	text := e.End()
	d, others := NewDecoder(text), edgeProbs()
	for _, s := range l {
		if d.Bad() {
			t.Fatal("bad ahead of the end")
		}
		decodeStep(t, d, others, s)
	}
	if !d.Done() || d.Bad() || !slices.Equal(probs, others) {
		t.Fatalf("behind %d steps: done %v, bad %v", len(l), d.Done(), d.Bad())
	}
}

// P3.3: of no step, of each kind alone, and of all of them mixed.
func TestBack(t *testing.T) {
	r := rand.New(rand.NewSource(4))
	wantBack(t, nil)
	for range 500 {
		wantBack(t, randomSteps(r, r.Intn(80)))
	}
	wantBack(t, randomSteps(r, 50000))
}

// P3.3: each number of direct bits, at the edges of their values.
func TestBackOfDirectBits(t *testing.T) {
	for n := range 33 {
		for _, v := range []uint32{0, 1, 0x55555555, 0x80000000, 0xAAAAAAAA, 0xFFFFFFFE, 0xFFFFFFFF} {
			wantBack(t, []step{{kind: directStep, v: v, n: n}, {kind: directStep, v: ^v, n: 32 - n}})
		}
	}
}

// P3.3: every part of a small total, and the edges of the greatest one, behind a Range that isn't the first.
func TestBackOfParts(t *testing.T) {
	narrow := step{kind: directStep, v: 0xFF, n: 8}
	for total := uint32(1); total <= 12; total++ {
		for start := range total {
			for size := uint32(1); start+size <= total; size++ {
				p := step{kind: partStep, start: start, size: size, total: total}
				wantBack(t, []step{p, narrow, p, p})
			}
		}
	}
	for _, c := range [][2]uint32{{0, 1}, {0, 65536}, {65535, 1}, {1, 65535}, {32768, 1}, {32767, 2}} {
		p := step{kind: partStep, start: c[0], size: c[1], total: 65536}
		wantBack(t, []step{p, narrow, p, p})
	}
}

// P3.3: bits that are as unlikely as can be, and as likely.
func TestBackOfLongRows(t *testing.T) {
	for which := range edgeProbs() {
		for bit := range 2 {
			row := make([]step, 3000)
			for i := range row {
				row[i] = step{kind: bitStep, which: which, bit: bit}
				if i%1000 == 999 {
					row[i].bit = 1 - bit
				}
			}
			wantBack(t, row)
		}
	}
}

// P3.3 holds of the very bytes: with one more the decoder isn't Done, with one less it is bad.
func TestBackOfOtherBytes(t *testing.T) {
	r := rand.New(rand.NewSource(5))
	l := randomSteps(r, 50)
	text := encodeAll(l)
	longer, probs := NewDecoder(text+"\x00"), edgeProbs()
	shorter, others := NewDecoder(text[:len(text)-1]), edgeProbs()
	for _, s := range l {
		decodeStep(t, longer, probs, s)
		askStep(shorter, others, s)
	}
	if longer.Done() || longer.Bad() {
		t.Errorf("one byte more: done %v, bad %v", longer.Done(), longer.Bad())
	}
	if !shorter.Bad() {
		t.Error("one byte less: not bad")
	}
}

// askStep decodes a step, whatever comes of it.
func askStep(d *Decoder, probs []uint16, s step) {
	switch s.kind {
	case bitStep:
		d.Bit(&probs[s.which])
	case directStep:
		d.Direct(s.n)
	case partStep:
		d.Where(s.total)
		d.Take(s.start, s.size)
	}
}
