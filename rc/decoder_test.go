package rc

import (
	"math"
	"math/rand"
	"testing"
)

// P3.2, NewDecoder: bad by its length, or by its first byte; Done by what was read, and by Code.
func TestNewDecoder(t *testing.T) {
	for _, c := range []struct {
		s         string
		bad, done bool
	}{
		{"", true, true},
		{"\x00", true, true},
		{"\x00\x00", true, true},
		{"\x00\x00\x00\x00", true, true},
		{"\x00\x00\x00\x00\x00", false, true},
		{"\x00\x00\x00\x00\x00\x00", false, false},
		{"\x00\x00\x00\x00\x01", false, false},
		{"\x00\x01\x00\x00\x00", false, false},
		{"\x00\x00\x00\x01", true, false},
		{"\x00\x01", true, false},
		{"\x01", true, true},
		{"\x01\x00\x00\x00\x00", true, true},
		{"\xff\x00\x00\x00\x00", true, true},
		{"\xff\x00\x00\x00\x01", true, false},
		{"\x80\x00\x00\x00\x00\x00", true, false},
		{"\x00\xff\xff\xff\xff", false, false},
	} {
		d := NewDecoder(c.s)
		if d.Bad() != c.bad || d.Done() != c.done {
			t.Errorf("%x: bad %v, done %v", c.s, d.Bad(), d.Done())
		}
	}
}

// P3.2: bytes that lack count as 0, of the lowest ones: those that are there stand at the top.
func TestLackingBytesAreZeros(t *testing.T) {
	for _, s := range []string{"", "\x00", "\x00\xa5", "\x00\xa5\x3c", "\x00\xa5\x3c\x77", "\x01\xa5"} {
		short, whole := NewDecoder(s), NewDecoder((s + "\x00\x00\x00\x00\x00")[:5])
		for i := range 20 {
			if a, b := short.Direct(1), whole.Direct(1); a != b {
				t.Errorf("%x: direct bit %d is %d, want %d", s, i, a, b)
			}
		}
	}
}

// P3.2: at the borders, worked out by hand.
func TestBorders(t *testing.T) {
	for _, c := range []struct {
		s   string
		bit int
	}{
		{"\x00\x7f\xff\xfb\xff", 0},
		{"\x00\x7f\xff\xfc\x00", 1},
		{"\x00\x00\x00\x00\x00", 0},
		{"\x00\xff\xff\xff\xff", 1},
	} {
		p := uint16(Start)
		if got := NewDecoder(c.s).Bit(&p); got != c.bit {
			t.Errorf("%x: bit %d", c.s, got)
		}
	}
	for _, c := range []struct {
		s   string
		bit uint32
	}{
		{"\x00\x7f\xff\xff\xfe", 0},
		{"\x00\x7f\xff\xff\xff", 1},
	} {
		if got := NewDecoder(c.s).Direct(1); got != c.bit {
			t.Errorf("%x: direct bit %d", c.s, got)
		}
	}
	for _, c := range []struct {
		s            string
		total, where uint32
	}{
		{"\x00\x59\x99\x99\x93", 20, 6},
		{"\x00\x59\x99\x99\x94", 20, 7},
		{"\x00\x00\x00\x00\x00", 20, 0},
		{"\x00\xff\xff\xff\xef", 20, 19},
		{"\x00\xff\xff\xff\xff", 20, 19}, // the quotient is 20
		{"\x00\xff\xff\xff\xff", 1, 0},
		{"\x00\xff\xff\xff\xff", 65536, 65535},
		{"\x00\xff\xff\x00\x00", 65536, 65535}, // the quotient is 65536
		{"\x00\xff\xfe\xff\xff", 65536, 65535},
		{"\x00\xff\xfe\x00\x00", 65536, 65534},
	} {
		d := NewDecoder(c.s)
		if got := d.Where(c.total); got != c.where || d.Where(c.total) != got {
			t.Errorf("%x: where in %d: %d, want %d", c.s, c.total, got, c.where)
		}
	}
}

// P3.2: Where asks only; the Take behind it is of the last total that was asked for.
func TestWhereChangesNothing(t *testing.T) {
	s := "\x00\x59\x99\x99\x94\x12\x34\x56"
	asked, plain := NewDecoder(s), newPlainDecoder(s)
	asked.Where(3)
	asked.Where(65536)
	if got, want := asked.Where(20), plain.where(20); got != want {
		t.Errorf("where: %d, want %d", got, want)
	}
	asked.Take(7, 3)
	plain.take(7, 3, 20)
	for range 40 {
		if got, want := asked.Direct(1), plain.direct(); got != want {
			t.Fatalf("direct: %d, want %d", got, want)
		}
	}
}

// P3.2: a decoder becomes bad by the byte that lacks, not ahead of it, and stays so.
func TestBadBehindTheEnd(t *testing.T) {
	d := NewDecoder("\x00\x00\x00\x00\x00\x00")
	for i := range 100 {
		if got, want := d.Bad(), i >= 16; got != want {
			t.Fatalf("behind %d bits: bad %v", i, got)
		}
		if got, want := d.Done(), i >= 8; got != want {
			t.Fatalf("behind %d bits: done %v", i, got)
		}
		if d.Direct(1) != 0 {
			t.Fatalf("bit %d isn't 0", i)
		}
	}
}

// compareStep asks both decoders for one step of random bytes.
func compareStep(t *testing.T, r *rand.Rand, d *Decoder, plain *plainDecoder, probs, plainProbs []uint16) {
	t.Helper()
	s := randomStep(r)
	switch s.kind {
	case bitStep:
		got := d.Bit(&probs[s.which])
		want, p := plain.bit(int(plainProbs[s.which]))
		plainProbs[s.which] = uint16(p)
		if got != want || probs[s.which] != uint16(p) {
			t.Fatalf("bit %d, want %d", got, want)
		}
	case directStep:
		want := uint32(0)
		for range s.n {
			want = want<<1 | plain.direct()
		}
		if got := d.Direct(s.n); got != want {
			t.Fatalf("%d direct bits: %x, want %x", s.n, got, want)
		}
	case partStep:
		if got, want := d.Where(s.total), plain.where(s.total); got != want {
			t.Fatalf("where in %d: %d, want %d", s.total, got, want)
		}
		// Half of them take the part where it lies, as those of a true text do.
		if r.Intn(2) == 0 {
			s.start, s.size = plain.where(s.total), 1
		}
		d.Take(s.start, s.size)
		plain.take(s.start, s.size, s.total)
	}
	if d.Bad() != plain.bad() || d.Done() != plain.done() {
		t.Fatalf("bad %v, done %v, want %v, %v", d.Bad(), d.Done(), plain.bad(), plain.done())
	}
}

// P3.2: of any bytes, also of those that no encoder tells, beside the plain decoder; far over their end.
func TestDecoderAgainstPlain(t *testing.T) {
	r := rand.New(rand.NewSource(3))
	for n := range 600 {
		b := make([]byte, 5+r.Intn(60))
		r.Read(b)
		if n%4 != 0 {
			b[0] = 0
		}
		if n%8 == 1 { // Code is as great as Range, or more
			for i := 1; i < 5+n%3; i++ {
				b[i%len(b)] = 0xff
			}
		}
		d, plain := NewDecoder(string(b)), newPlainDecoder(string(b))
		probs, plainProbs := edgeProbs(), edgeProbs()
		for range 60 {
			compareStep(t, r, d, plain, probs, plainProbs)
		}
	}
}

// P3.2, of nil: 0, false, Bad is true.
func TestNilDecoder(t *testing.T) {
	var d *Decoder
	p := uint16(Start)
	if d.Bit(&p) != 0 || p != Start || d.Direct(32) != 0 || d.Where(65536) != 0 || d.Done() || !d.Bad() {
		t.Error("something of nil")
	}
	d.Take(0, 1)
}

// P1: what the chapter doesn't speak of ends all the same, tells 0, and leaves the decoder as it was.
func TestDecoderLeavesOutOthers(t *testing.T) {
	s := "\x00\xff\xff\xff\xff\x12\x34\x56\x78"
	d, plain := NewDecoder(s), newPlainDecoder(s)
	d.Take(0, 1) // no Where ahead of it
	for _, q := range []uint16{0, 2048, 65535} {
		was := q
		if d.Bit(&q) != 0 || q != was {
			t.Errorf("a bit by %d", was)
		}
	}
	if d.Bit(nil) != 0 {
		t.Error("a bit by nothing")
	}
	for _, n := range []int{math.MinInt, -1, 33, math.MaxInt} {
		if d.Direct(n) != 0 {
			t.Errorf("%d direct bits", n)
		}
	}
	for _, total := range []uint32{0, 65537, math.MaxUint32} {
		if d.Where(total) != 0 {
			t.Errorf("somewhere in %d", total)
		}
	}
	d.Where(5)
	for _, c := range [][2]uint32{{0, 0}, {5, 1}, {4, 2}, {0, 6}, {1, math.MaxUint32}, {math.MaxUint32, 1}} {
		d.Take(c[0], c[1])
	}
	for range 40 {
		if got, want := d.Direct(1), plain.direct(); got != want {
			t.Fatalf("direct: %d, want %d", got, want)
		}
	}
}
