package hmac

import (
	"crypto/hmac"
	"crypto/sha256"
	"encoding/hex"
	"math/rand"
	"strings"
	"sync"
	"testing"
)

func randomText(r *rand.Rand, n int) string {
	b := make([]byte, n)
	r.Read(b)
	return string(b)
}

// otherSum is that of the library, which the program doesn't use.
func otherSum(key, s string) string {
	h := hmac.New(sha256.New, []byte(key))
	h.Write([]byte(s))
	return string(h.Sum(nil))
}

// upTo answers the bytes from 1 to n.
func upTo(n int) string {
	b := make([]byte, n)
	for i := range b {
		b[i] = byte(i + 1)
	}
	return string(b)
}

// P24.1: sums that are known from elsewhere: those of RFC 4231, and such as another program made, of keys at the edge of 64 bytes.
func TestKnownSums(t *testing.T) {
	for _, c := range []struct{ key, text, sum string }{
		{"key", "The quick brown fox jumps over the lazy dog", "f7bc83f430538424b13298e6aa6fb143ef4d59a14946175997479dbc2d1a3cd8"},
		{"", "", "b613679a0814d9ec772f95d778c35fc5ff1697c493715653c6c712144292c5ad"},
		{strings.Repeat("\x0b", 20), "Hi There", "b0344c61d8db38535ca8afceaf0bf12b881dc200c9833da726e9376c2e32cff7"},
		{"Jefe", "what do ya want for nothing?", "5bdcc146bf60754e6a042426089575c75a003f089d2739839dec58b964ec3843"},
		{strings.Repeat("\xaa", 20), strings.Repeat("\xdd", 50), "773ea91e36800e46854db8ebd09181a72959098b3ef8c122d9635514ced565fe"},
		{upTo(25), strings.Repeat("\xcd", 50), "82558a389a443c0ea4cc819899f2083a85f0faa3e578f8077a2e3ff46729665b"},
		{strings.Repeat("\xaa", 131), "Test Using Larger Than Block-Size Key - Hash Key First", "60e431591ee0b67f0d8a26aacbf5b77f8e0bc6213728c5140546040f0ee37f54"},
		{strings.Repeat("\xaa", 131), "This is a test using a larger than block-size key and a larger than block-size data. The key needs to be hashed before being used by the HMAC algorithm.", "9b09ffa71b942fcb27635fbcd5b0e944bfdc63644f0713938a7f51535c3a35e2"},
		{strings.Repeat("k", 63), "x", "2c8e6c72fe7045b7a0a70b952f1c70abaa3951a6580a297f175296cb07b905c7"},
		{strings.Repeat("k", 64), "x", "f91c4c403625fb06910ef93999265bbd2d62baeaec6ff36455498cc124fe3e66"},
		{strings.Repeat("k", 65), "x", "75092ca3ee2b307470c227697b42b3e65376aa3bae98fb5a1f7b7536daa9588a"},
		{strings.Repeat("k", 64), "", "83026a325aaee70e36cfe607536aa1054104ad1077c36134810d4ccded1ccd3b"},
	} {
		if got := hex.EncodeToString([]byte(Sum(c.key, c.text))); got != c.sum {
			t.Errorf("key %.9q, text %.9q: %s, want %s", c.key, c.text, got, c.sum)
		}
	}
}

// P24.1: keys of each length about 64, and texts of each length about that of a chunk, whether they are UTF-8 or not.
func TestSumIsTheLibrarys(t *testing.T) {
	r := rand.New(rand.NewSource(1))
	for n := range 200 {
		key, s := randomText(r, n), randomText(r, r.Intn(200))
		if got := Sum(key, s); got != otherSum(key, s) || got != plainSum(key, s) {
			t.Errorf("a key of %d bytes, a text of %d: %x", n, len(s), got)
		}
		key, s = randomText(r, r.Intn(100)), randomText(r, n)
		if got := Sum(key, s); got != otherSum(key, s) || got != plainSum(key, s) {
			t.Errorf("a key of %d bytes, a text of %d: %x", len(key), n, got)
		}
	}
	key, s := randomText(r, 1<<20), randomText(r, 1<<20+9)
	if Sum(key, s) != otherSum(key, s) {
		t.Error("a long key and a long text")
	}
}

// P24.1: bytes of 0 stand behind a key up to 64, so that such ones of its own are the same; a longer key counts as its sum.
func TestKeysThatAreTheSame(t *testing.T) {
	for _, n := range []int{3, 4, 63, 64} {
		key := "kkk" + strings.Repeat("\x00", n-3)
		if Sum(key, "text") != Sum("kkk", "text") {
			t.Errorf("a key of %d bytes", len(key))
		}
	}
	long := "kkk" + strings.Repeat("\x00", 62)
	if Sum(long, "text") == Sum("kkk", "text") {
		t.Error("a key of 65 bytes counts as one of 64")
	}
	if Sum(long, "text") != Sum(plainLayer23(long), "text") {
		t.Error("a key of 65 bytes doesn't count as its sum")
	}
}

// P24.1: where key and text part isn't left open: other keys with the same bytes in all have other sums.
func TestKeyAndTextApart(t *testing.T) {
	seen := map[string]int{}
	both := "a key and a text"
	for i := range len(both) + 1 {
		sum := Sum(both[:i], both[i:])
		if before, ok := seen[sum]; ok {
			t.Errorf("parted at %d and at %d: the same", before, i)
		}
		seen[sum] = i
	}
}

// P24.1: two texts are the same just if they have as many bytes, and each is.
func TestSame(t *testing.T) {
	for _, c := range []struct {
		a, b string
		same bool
	}{
		{"", "", true},
		{"", "a", false},
		{"", "\x00", false},
		{"a", "a", true},
		{"a", "b", false},
		{"a", "A", false},
		{"a", "ab", false},
		{"a", "a\x00", false},
		{"ab", "ba", false},
		{"aa", "bb", false},
		{"\xff\x00", "\xff\x00", true},
		{"\x01\x01", "\x02\x02", false},
		{"\x01\x02", "\x02\x01", false},
		{"\xff\xff\xff", "\xff\xff", false},
		{"é", "é", true},
		{"é", "e\u0301", false},
	} {
		if Same(c.a, c.b) != c.same || Same(c.b, c.a) != c.same {
			t.Errorf("%q and %q: %v", c.a, c.b, !c.same)
		}
	}
}

// P24.1: each single bit is looked at, and the first and the last bytes of texts of one length or another.
func TestSameLooksAtAll(t *testing.T) {
	r := rand.New(rand.NewSource(2))
	for _, n := range []int{1, 2, 31, 32, 33, 64, 100} {
		a := randomText(r, n)
		if other := string([]byte(a)); !Same(a, other) {
			t.Errorf("%d bytes, written twice", n)
		}
		for bit := range 8 * n {
			b := []byte(a)
			b[bit/8] ^= 1 << (bit % 8)
			if Same(a, string(b)) {
				t.Errorf("%d bytes, bit %d turned", n, bit)
			}
		}
		if Same(a, a[1:]) || Same(a[:n-1], a) || Same(a, a+a) {
			t.Errorf("%d bytes, and fewer or more", n)
		}
	}
}

// Rules: an answer depends on what was handed in alone, not on what was asked before, or is beside it.
func TestRules(t *testing.T) {
	r := rand.New(rand.NewSource(3))
	text := randomText(r, 400)
	var all sync.WaitGroup
	for n := range 40 {
		all.Go(func() {
			key, s := text[:3*n], text[n:10*n]
			for range 10 {
				if Sum(key, s) != otherSum(key, s) || !Same(key, text[:3*n]) {
					t.Errorf("a key of %d bytes", len(key))
				}
			}
		})
	}
	all.Wait()
}
