package crc

import (
	"hash/crc32"
	"math/rand"
	"strings"
	"testing"
)

// seeded is the same row of numbers in every run.
func seeded() *rand.Rand { return rand.New(rand.NewSource(1)) }

func randomText(r *rand.Rand, n int) string {
	b := make([]byte, n)
	r.Read(b)
	return string(b)
}

// P1.1: sums that are known from elsewhere.
func TestKnownSums(t *testing.T) {
	for _, c := range []struct {
		text string
		sum  uint32
	}{
		{"", 0},
		{"123456789", 0xCBF43926},
		{"a", 0xE8B7BE43},
		{"abc", 0x352441C2},
		{"The quick brown fox jumps over the lazy dog", 0x414FA339},
		{"\x00", 0xD202EF8D},
		{"\x00\x00", 0x41D912FF},
		{"\xff", 0xFF000000},
		{"\xff\xff\xff\xff", 0xFFFFFFFF},
		{strings.Repeat("\x00", 32), 0x190A55AD},
		{strings.Repeat("\xff", 32), 0xFF6CAB0B},
	} {
		if got := Sum(c.text); got != c.sum {
			t.Errorf("Sum(%q) = %08X, want %08X", c.text, got, c.sum)
		}
	}
}

// P1.1: each single byte, and texts of all short lengths, whether they are UTF-8 or not.
func TestSumIsIEEE(t *testing.T) {
	r := seeded()
	for b := range 256 {
		s := string([]byte{byte(b)})
		if got, want := Sum(s), crc32.ChecksumIEEE([]byte(s)); got != want {
			t.Errorf("Sum(%q) = %08X, want %08X", s, got, want)
		}
	}
	for n := range 300 {
		s := randomText(r, n)
		if got, want := Sum(s), crc32.ChecksumIEEE([]byte(s)); got != want {
			t.Errorf("Sum of %d bytes = %08X, want %08X", n, got, want)
		}
	}
	long := randomText(r, 1<<20)
	if got, want := Sum(long), crc32.ChecksumIEEE([]byte(long)); got != want {
		t.Errorf("Sum of a long text = %08X, want %08X", got, want)
	}
}

// P1.1: Add goes on where Sum stopped, wherever the text is cut.
func TestAddAtEveryCut(t *testing.T) {
	s := randomText(seeded(), 200)
	want := Sum(s)
	for i := range len(s) + 1 {
		if got := Add(Sum(s[:i]), s[i:]); got != want {
			t.Errorf("cut at %d: %08X, want %08X", i, got, want)
		}
	}
	piecewise := Sum("")
	for i := range len(s) {
		piecewise = Add(piecewise, s[i:i+1])
	}
	if piecewise != want {
		t.Errorf("byte by byte: %08X, want %08X", piecewise, want)
	}
}

// P1.1: every number is the sum of some text, so Add goes on from each; nothing added leaves it.
func TestAddToAnySum(t *testing.T) {
	r := seeded()
	for _, sum := range []uint32{0, 1, 0x7FFFFFFF, 0x80000000, 0xEDB88320, 0xFFFFFFFE, 0xFFFFFFFF, r.Uint32(), r.Uint32()} {
		if got := Add(sum, ""); got != sum {
			t.Errorf("Add(%08X, nothing) = %08X", sum, got)
		}
		s := randomText(r, 33)
		if got, want := Add(sum, s), crc32.Update(sum, crc32.IEEETable, []byte(s)); got != want {
			t.Errorf("Add(%08X, text) = %08X, want %08X", sum, got, want)
		}
	}
}

// P1.1: always four bytes, the lowest one first.
func TestBytes(t *testing.T) {
	for _, c := range []struct {
		sum  uint32
		text string
	}{
		{0, "\x00\x00\x00\x00"},
		{1, "\x01\x00\x00\x00"},
		{0x01020304, "\x04\x03\x02\x01"},
		{0x80000000, "\x00\x00\x00\x80"},
		{0xCBF43926, "\x26\x39\xF4\xCB"},
		{0xFFFFFFFF, "\xff\xff\xff\xff"},
	} {
		if got := Bytes(c.sum); got != c.text {
			t.Errorf("Bytes(%08X) = %x, want %x", c.sum, got, c.text)
		}
	}
}

// P1.1: a text with its own sum's bytes behind it has one sum for all texts; so order of bits and bytes agree.
func TestBytesBehindTheirText(t *testing.T) {
	r := seeded()
	for n := range 50 {
		s := randomText(r, n)
		if got := Sum(s + Bytes(Sum(s))); got != 0x2144DF1C {
			t.Errorf("%d bytes: %08X", n, got)
		}
	}
}

// turn answers s with the bits of pattern turned, from the bit at on, each byte's bits counted from the lowest one.
func turn(s string, at int, pattern uint32) string {
	b := []byte(s)
	for i := range 32 {
		if pattern>>i&1 == 1 {
			b[(at+i)/8] ^= 1 << ((at + i) % 8)
		}
	}
	return string(b)
}

// P1.2: each single bit, each pair of bits, and many other differences within 32 bits, at every place.
func TestNearDifferencesAreSeen(t *testing.T) {
	r := seeded()
	patterns := []uint32{0xFFFFFFFF, 0xEDB88320, 0xEDB88321, 0x04C11DB7, 0x80000001}
	for i := range 32 {
		patterns = append(patterns, 1<<i, 1|1<<i, 1<<i-1|1<<31)
	}
	for range 400 {
		patterns = append(patterns, 1|r.Uint32()>>r.Intn(32))
	}
	for _, n := range []int{4, 5, 8, 64} {
		s := randomText(r, n)
		sum := Sum(s)
		for at := range 8*n - 31 {
			for _, p := range patterns {
				if Sum(turn(s, at, p)) == sum {
					t.Fatalf("%d bytes, bit %d, pattern %08X: the same sum", n, at, p)
				}
			}
		}
	}
}

// P1.2: as it is said of bits counted from the lowest one of each byte on: 33 bits in a row can go unseen, so these are the edge.
func TestThirtyThreeBitsMayGoUnseen(t *testing.T) {
	s := "12345"
	// The polynomial with its highest term: the one difference of 33 bits that leaves every sum.
	other := turn(turn(s, 0, 1), 1, polynomial)
	if other == s || Sum(other) != Sum(s) {
		t.Errorf("%08X and %08X", Sum(other), Sum(s))
	}
}

// P1.2 follows for texts of up to four bytes from there being as many sums as texts: here of all pairs of bytes.
func TestShortTextsAllDiffer(t *testing.T) {
	seen := map[uint32]int{}
	for v := range 1 << 16 {
		sum := Sum(string([]byte{byte(v), byte(v >> 8)}))
		if u, ok := seen[sum]; ok {
			t.Fatalf("%04X and %04X have the sum %08X", u, v, sum)
		}
		seen[sum] = v
	}
}
