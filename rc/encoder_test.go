package rc

import (
	"math"
	"math/big"
	"math/rand"
	"slices"
	"strings"
	"testing"
)

// P3.1: bytes that were worked out by hand.
func TestKnownBytes(t *testing.T) {
	for _, c := range []struct {
		name  string
		steps []step
		want  string
	}{
		{"nothing", nil, "\x00\x00\x00\x00\x00"},
		{"bit 0", []step{{kind: bitStep, bit: 0}}, "\x00\x00\x00\x00\x00"},
		{"bit 1", []step{{kind: bitStep, bit: 1}}, "\x00\x7f\xff\xfc\x00"},
		{"bit 2", []step{{kind: bitStep, bit: 2}}, "\x00\x7f\xff\xfc\x00"},
		{"bit -1", []step{{kind: bitStep, bit: -1}}, "\x00\x7f\xff\xfc\x00"},
		{"bit of MinInt", []step{{kind: bitStep, bit: math.MinInt}}, "\x00\x7f\xff\xfc\x00"},
		{"bit of MaxInt", []step{{kind: bitStep, bit: math.MaxInt}}, "\x00\x7f\xff\xfc\x00"},
		{"bit 1 by 1", []step{{kind: bitStep, which: 1, bit: 1}}, "\x00\x00\x1f\xff\xff"},
		{"bit 0 by 1", []step{{kind: bitStep, which: 1, bit: 0}}, "\x00\x00\x00\x00\x00\x00"},
		{"no direct bits", []step{{kind: directStep, v: 0xFFFFFFFF, n: 0}}, "\x00\x00\x00\x00\x00"},
		{"direct 1", []step{{kind: directStep, v: 1, n: 1}}, "\x00\x7f\xff\xff\xff"},
		{"direct 1 of more", []step{{kind: directStep, v: 0xFFFFFFFF, n: 1}}, "\x00\x7f\xff\xff\xff"},
		{"direct 10", []step{{kind: directStep, v: 2, n: 2}}, "\x00\x7f\xff\xff\xff"},
		{"direct 01", []step{{kind: directStep, v: 1, n: 2}}, "\x00\x3f\xff\xff\xff"},
		{"direct 000000001", []step{{kind: directStep, v: 1, n: 9}}, "\x00\x00\x7f\xff\xff\x80"},
		{"part", []step{{kind: partStep, start: 7, size: 3, total: 20}}, "\x00\x59\x99\x99\x94"},
		{"whole", []step{{kind: partStep, start: 0, size: 1, total: 1}}, "\x00\x00\x00\x00\x00"},
		{"last of the greatest total", []step{{kind: partStep, start: 65535, size: 1, total: 65536}}, "\x00\xff\xfe\x00\x01\x00\x00"},
		{"all of the greatest total", []step{{kind: partStep, start: 0, size: 65536, total: 65536}}, "\x00\x00\x00\x00\x00"},
	} {
		if got := encodeAll(c.steps); got != c.want {
			t.Errorf("%s: %x, want %x", c.name, got, c.want)
		}
	}
}

// The chapter's constant, and how each probability learns from each bit, by both coders.
func TestLearning(t *testing.T) {
	if Start != 1024 {
		t.Error(Start)
	}
	for p := 1; p <= 2047; p++ {
		for bit, want := range []int{p + (2048-p)/32, p - p/32} {
			e, a, b := NewEncoder(), uint16(p), uint16(p)
			e.Bit(&a, bit)
			if got := NewDecoder(e.End()).Bit(&b); got != bit || int(a) != want || int(b) != want {
				t.Errorf("%d behind a %d: %d, and %d behind a %d, want %d", p, bit, a, b, got, want)
			}
			if a < 1 || a > 2047 {
				t.Errorf("%d behind a %d: %d is no probability", p, bit, a)
			}
		}
	}
}

// P3.1: many steps in a row, beside the plain encoder; to ask for End changes nothing.
func TestEncoderAgainstPlain(t *testing.T) {
	r := rand.New(rand.NewSource(1))
	for range 300 {
		e, plain := NewEncoder(), newPlainEncoder()
		probs, plainProbs := edgeProbs(), edgeProbs()
		for i, s := range randomSteps(r, 60) {
			encodeStep(e, probs, s)
			plainStep(plain, plainProbs, s)
			if got, want := e.End(), plain.end(); got != want || e.End() != want {
				t.Fatalf("step %d, %+v: %x, want %x", i, s, got, want)
			}
			if !slices.Equal(probs, plainProbs) {
				t.Fatalf("step %d, %+v: %v, want %v", i, s, probs, plainProbs)
			}
		}
	}
}

// straddle encodes direct bits so that Low stays below half of what its bytes hold, and Low and Range together above: all bytes behind the first one become FF.
func straddle(e *Encoder, plain *plainEncoder, n int) {
	for range n {
		half := new(big.Int).Lsh(big.NewInt(1), uint(8*(plain.turns+4)-1))
		middle := new(big.Int).Add(plain.low, new(big.Int).SetUint64(plain.width/2))
		bit := 0
		if middle.Cmp(half) < 0 {
			bit = 1
		}
		e.Direct(uint32(bit), 1)
		plain.direct(bit)
	}
}

// P3.1: what goes over is carried through a long row of bytes FF, and no further.
func TestCarry(t *testing.T) {
	for n := 1; n < 200; n++ {
		e, plain := NewEncoder(), newPlainEncoder()
		straddle(e, plain, n)
		if got, want := e.End(), plain.end(); got != want {
			t.Fatalf("%d bits ahead: %x, want %x", n, got, want)
		}
		e.Part(999, 1, 1000)
		plain.part(999, 1, 1000)
		if got, want := e.End(), plain.end(); got != want {
			t.Fatalf("%d bits and a part: %x, want %x", n, got, want)
		}
	}
}

// So TestCarry means something: its row of FF is there, and turns to 00 by the last step.
func TestCarryIsMet(t *testing.T) {
	longest := 0
	for n := 1; n < 200; n++ {
		e, plain := NewEncoder(), newPlainEncoder()
		straddle(e, plain, n)
		before := e.End()
		e.Part(999, 1, 1000)
		row := len(before) - 2 - 4
		if row > longest && before[1] == 0x7f && e.End()[1] == 0x80 &&
			before[2:2+row] == strings.Repeat("\xff", row) && e.End()[2:2+row] == strings.Repeat("\x00", row) {
			longest = row
		}
	}
	if longest < 3 {
		t.Errorf("the longest row: %d bytes", longest)
	}
}

// P3.1: encoders are apart from each other, and what End told stays.
func TestEncodersAreApart(t *testing.T) {
	r := rand.New(rand.NewSource(2))
	l, other := randomSteps(r, 100), randomSteps(r, 100)
	a, b := NewEncoder(), NewEncoder()
	p, q := edgeProbs(), edgeProbs()
	for i := range l {
		encodeStep(a, p, l[i])
		encodeStep(b, q, other[i])
	}
	told := a.End()
	before := strings.Clone(told)
	if told != encodeAll(l) || b.End() != encodeAll(other) {
		t.Error("two at once aren't as one by one")
	}
	a.Direct(0xFFFFFFFF, 32)
	if told != before {
		t.Error("what End told has changed")
	}
}

// P3.1, of nil: nothing, the empty text.
func TestNilEncoder(t *testing.T) {
	var e *Encoder
	p := uint16(Start)
	e.Bit(&p, 0)
	e.Bit(&p, 1)
	e.Direct(5, 32)
	e.Part(1, 2, 3)
	if e.End() != "" || p != Start {
		t.Errorf("%x, %d", e.End(), p)
	}
}

// P1: what the chapter doesn't speak of ends all the same, and leaves the encoder as it was.
func TestEncoderLeavesOutOthers(t *testing.T) {
	e, p := NewEncoder(), uint16(Start)
	e.Bit(&p, 1)
	want := e.End()
	for _, q := range []uint16{0, 2048, 65535} {
		was := q
		e.Bit(&q, 0)
		e.Bit(&q, 1)
		if q != was {
			t.Errorf("%d learnt: %d", was, q)
		}
	}
	e.Bit(nil, 0)
	for _, n := range []int{math.MinInt, -1, 33, math.MaxInt} {
		e.Direct(0xFFFFFFFF, n)
	}
	for _, c := range [][3]uint32{{0, 0, 0}, {0, 1, 0}, {0, 0, 5}, {5, 1, 5}, {4, 2, 5}, {0, 6, 5}, {1, math.MaxUint32, 5}, {math.MaxUint32, 1, 5}, {0, 1, 65537}, {0, 1, math.MaxUint32}} {
		e.Part(c[0], c[1], c[2])
	}
	if e.End() != want {
		t.Errorf("%x, want %x", e.End(), want)
	}
}
