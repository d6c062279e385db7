package sha

import (
	"crypto/sha256"
	"encoding/hex"
	"math/rand"
	"slices"
	"strings"
	"sync"
	"testing"
)

func randomText(r *rand.Rand, n int) string {
	b := make([]byte, n)
	r.Read(b)
	return string(b)
}

// otherSum is that of the library, which the program doesn't use.
func otherSum(s string) string {
	sum := sha256.Sum256([]byte(s))
	return string(sum[:])
}

// P23.1: sums that are known from elsewhere: those of FIPS 180-4's examples, and such as another program made.
func TestKnownSums(t *testing.T) {
	zeros := func(n int) string { return strings.Repeat("\x00", n) }
	for _, c := range []struct{ text, sum string }{
		{"", "e3b0c44298fc1c149afbf4c8996fb92427ae41e4649b934ca495991b7852b855"},
		{"a", "ca978112ca1bbdcafac231b39a23dc4da786eff8147c4e72b9807785afee48bb"},
		{"abc", "ba7816bf8f01cfea414140de5dae2223b00361a396177a9cb410ff61f20015ad"},
		{"\xbd", "68325720aabd7c82f30f554b313d0570c95accbb7dc4b5aae11204c08ffe732b"},
		{"\xc9\x8c\x8e\x55", "7abc22c0ae5af26ce93dbb94433a0e0b2e119d014f8e7f65bd56c61ccccd9504"},
		{"abcdbcdecdefdefgefghfghighijhijkijkljklmklmnlmnomnopnopq", "248d6a61d20638b8e5c026930c3e6039a33ce45964ff2167f6ecedd419db06c1"},
		{"abcdefghbcdefghicdefghijdefghijkefghijklfghijklmghijklmnhijklmnoijklmnopjklmnopqklmnopqrlmnopqrsmnopqrstnopqrstu", "cf5b16a778af8380036ce59e7b0492370b249b11e8f07a51afac45037afee9d1"},
		{zeros(55), "02779466cdec163811d078815c633f21901413081449002f24aa3e80f0b88ef7"},
		{zeros(56), "d4817aa5497628e7c77e6b606107042bbba3130888c5f47a375e6179be789fbb"},
		{zeros(57), "65a16cb7861335d5ace3c60718b5052e44660726da4cd13bb745381b235a1785"},
		{zeros(63), "c7723fa1e0127975e49e62e753db53924c1bd84b8ac1ac08df78d09270f3d971"},
		{zeros(64), "f5a5fd42d16a20302798ef6ed309979b43003d2320d9f0e8ea9831a92759fb4b"},
		{zeros(65), "98ce42deef51d40269d542f5314bef2c7468d401ad5d85168bfab4c0108f75f7"},
		{strings.Repeat("\xff", 64), "8667e718294e9e0df1d30600ba3eeb201f764aad2dad72748643e4a285e1d1f7"},
		{strings.Repeat("x", 119), "000b48d4edf0fa7bee3c6236ecd2785baa5db4eeb8bb54341b029e0d9fa5fb0c"},
		{strings.Repeat("x", 120), "13f05a0b594787f5ecd315edc96141bd3243203d1b7d4f0836f37308b276ba98"},
		{strings.Repeat("x", 127), "70156a14adbabf98cff3a71c7084b417abf057a8efd27329ca36b7202c87d81f"},
		{strings.Repeat("x", 128), "24da1b81d0b16df6428eee73c69fcb2a93c76bc6df706f0c6670fe6bfe800464"},
		{strings.Repeat("a", 1000000), "cdc76e5c9914fb9281a1c7e284d73e67f1809a48a497200e046d39ccc7112cd0"},
	} {
		if got := hex.EncodeToString([]byte(Sum(c.text))); got != c.sum {
			t.Errorf("%d bytes, %.9q: %s, want %s", len(c.text), c.text, got, c.sum)
		}
	}
}

// P23.1: each single byte, and texts of all short lengths, whether they are UTF-8 or not: so each length modulo 64 is met.
func TestSumIsTheLibrarys(t *testing.T) {
	r := rand.New(rand.NewSource(1))
	for b := range 256 {
		s := string([]byte{byte(b)})
		if Sum(s) != otherSum(s) {
			t.Errorf("%q: %x", s, Sum(s))
		}
	}
	for n := range 400 {
		for _, s := range []string{randomText(r, n), strings.Repeat("\x00", n), strings.Repeat("\xff", n), strings.Repeat("\x80", n)} {
			if Sum(s) != otherSum(s) {
				t.Errorf("%d bytes, %.9q: %x", n, s, Sum(s))
			}
		}
	}
	long := randomText(r, 1<<22+17)
	if Sum(long) != otherSum(long) {
		t.Error("a long text")
	}
}

// P23.1: the constants are those of the first primes' roots.
func TestConstants(t *testing.T) {
	if want := plainRoots(64, 3); !slices.Equal(constants[:], want) {
		t.Errorf("K is %08x, want %08x", constants, want)
	}
	h := start()
	if want := plainRoots(8, 2); !slices.Equal(h[:], want) {
		t.Errorf("H is %08x, want %08x", h, want)
	}
}

// P23.1: beside the chapter, word by word.
func TestPlain(t *testing.T) {
	r := rand.New(rand.NewSource(2))
	k, h := plainRoots(64, 3), plainRoots(8, 2)
	for range 400 {
		s := randomText(r, r.Intn(300))
		if got, want := Sum(s), plainSum(s, k, h); got != want {
			t.Fatalf("%q: %x, want %x", s, got, want)
		}
	}
}

// P23.1: how a text is lengthened: whether what is wanting is room for eight bytes, one too few, or the mark's alone.
func TestLengthened(t *testing.T) {
	for n := range 200 {
		s := strings.Repeat("s", n)
		full := n / 64 * 64
		if got, want := s[:full]+lengthened(s[full:], n), string(plainLonger(s)); got != want {
			t.Errorf("%d bytes: %q, want %q", n, got, want)
		}
	}
}

// P23.1: bits are counted in eight bytes, also where four of them are too few.
func TestManyBits(t *testing.T) {
	for _, c := range []struct {
		all   int
		count string
	}{
		{31, "\x00\x00\x00\x00\x00\x00\x00\xf8"},
		{32, "\x00\x00\x00\x00\x00\x00\x01\x00"},
		{1<<29 - 1, "\x00\x00\x00\x00\xff\xff\xff\xf8"},
		{1 << 29, "\x00\x00\x00\x01\x00\x00\x00\x00"},
		{1<<31 - 1, "\x00\x00\x00\x03\xff\xff\xff\xf8"},
	} {
		got := lengthened("ab", c.all)
		if len(got) != 64 || got[:3] != "ab\x80" || got[56:] != c.count {
			t.Errorf("%d bytes: %q", c.all, got)
		}
	}
}

// P23.1: 32 bytes, whatever the text.
func TestSize(t *testing.T) {
	if Size != 32 {
		t.Errorf("Size is %d", Size)
	}
	for _, n := range []int{0, 1, 31, 32, 33, 64, 1000} {
		if got := len(Sum(strings.Repeat("x", n))); got != Size {
			t.Errorf("%d bytes: a sum of %d", n, got)
		}
	}
}

// Rules: a sum depends on its text alone, not on what was summed before, or is beside it.
func TestRules(t *testing.T) {
	r := rand.New(rand.NewSource(3))
	text := randomText(r, 1000)
	var all sync.WaitGroup
	for n := range 50 {
		all.Go(func() {
			s := text[n : 10*n+n]
			for range 20 {
				if Sum(s) != otherSum(s) {
					t.Errorf("%d bytes", len(s))
				}
			}
		})
	}
	all.Wait()
}
