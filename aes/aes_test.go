package aes

import (
	"crypto/aes"
	"crypto/cipher"
	"encoding/hex"
	"math/rand"
	"strings"
	"sync"
	"testing"
)

func randomText(r *rand.Rand, n int) string {
	b := make([]byte, n)
	r.Read(b)
	return string(b)
}

func randomBlock(r *rand.Rand) (b [16]byte) {
	r.Read(b[:])
	return b
}

func fromHex(t *testing.T, s string) string {
	t.Helper()
	b, err := hex.DecodeString(strings.ReplaceAll(s, " ", ""))
	if err != nil {
		t.Fatal(err)
	}
	return string(b)
}

func blockOf(s string) (b [16]byte) {
	copy(b[:], s)
	return b
}

// otherBlock and otherCtr are those of the library, which the program doesn't use.
func otherBlock(key string, b [16]byte) (out [16]byte) {
	c, err := aes.NewCipher([]byte(key))
	if err != nil {
		panic(err)
	}
	c.Encrypt(out[:], b[:])
	return out
}

func otherCtr(key string, iv [16]byte, s string) string {
	c, err := aes.NewCipher([]byte(key))
	if err != nil {
		panic(err)
	}
	out := make([]byte, len(s))
	cipher.NewCTR(c, iv[:]).XORKeyStream(out, []byte(s))
	return string(out)
}

// longKey is that of SP 800-38A's examples, and of FIPS 197's one of round keys.
const longKey = "603deb1015ca71be2b73aef0857d77811f352c073b6108d72d9810a30914dff4"

// P25.1: blocks that are known from elsewhere: the chapter's example, which is FIPS 197's; those of SP 800-38A; and such as another program made.
func TestKnownBlocks(t *testing.T) {
	zeros, ones := strings.Repeat("00", 32), strings.Repeat("ff", 32)
	for _, c := range []struct{ key, block, want string }{
		{"000102030405060708090a0b0c0d0e0f101112131415161718191a1b1c1d1e1f", "00112233445566778899aabbccddeeff", "8ea2b7ca516745bfeafc49904b496089"},
		{longKey, "6bc1bee22e409f96e93d7e117393172a", "f3eed1bdb5d2a03c064b5a7e3db181f8"},
		{longKey, "ae2d8a571e03ac9c9eb76fac45af8e51", "591ccb10d410ed26dc5ba74a31362870"},
		{longKey, "30c81c46a35ce411e5fbc1191a0a52ef", "b6ed21b99ca6f4f9f153e7b1beafed1d"},
		{longKey, "f69f2445df4f9b17ad2b417be66c3710", "23304b7a39f9f3ff067d8d8f9e24ecc7"},
		{zeros, zeros[:32], "dc95c078a2408989ad48a21492842087"},
		{zeros, ones[:32], "acdace8078a32b1a182bfa4987ca1347"},
		{ones, zeros[:32], "4bf85f1b5d54adbc307b0a048389adcb"},
		{ones, ones[:32], "d5f93d6d3311cb309f23621b02fbd5e2"},
	} {
		got := New(fromHex(t, c.key)).Block(blockOf(fromHex(t, c.block)))
		if hex.EncodeToString(got[:]) != c.want {
			t.Errorf("key %s, block %s: %x, want %s", c.key, c.block, got, c.want)
		}
	}
}

// P25.1: a bit of key and block at a time, and any keys and blocks, whether they are UTF-8 or not.
func TestBlockIsTheLibrarys(t *testing.T) {
	r := rand.New(rand.NewSource(1))
	check := func(key string, b [16]byte) {
		t.Helper()
		if got, want := New(key).Block(b), otherBlock(key, b); got != want {
			t.Errorf("key %x, block %x: %x, want %x", key, b, got, want)
		}
	}
	for bit := range 256 {
		key := make([]byte, 32)
		key[bit/8] = 0x80 >> (bit % 8)
		check(string(key), [16]byte{})
	}
	for bit := range 128 {
		var b [16]byte
		b[bit/8] = 0x80 >> (bit % 8)
		check(strings.Repeat("\x00", 32), b)
	}
	for n := range 256 {
		text := strings.Repeat(string([]byte{byte(n)}), 32)
		check(text, blockOf(text))
	}
	for range 1000 {
		check(randomText(r, 32), randomBlock(r))
	}
}

// P25.1: beside the chapter, word by word.
func TestPlain(t *testing.T) {
	r := rand.New(rand.NewSource(2))
	s := plainBox()
	for range 100 {
		key, b, text := randomText(r, 32), randomBlock(r), randomText(r, r.Intn(100))
		c := New(key)
		if got, want := c.Block(b), plainBlock(key, b, s); got != want {
			t.Fatalf("key %x, block %x: %x, want %x", key, b, got, want)
		}
		if got, want := c.Ctr(b, text), plainCtr(key, b, text, s); got != want {
			t.Fatalf("key %x, iv %x, text %x: %x, want %x", key, b, text, got, want)
		}
	}
}

// P25.1: other blocks are other blocks under one key, and one block under other keys, as each bit of either counts.
func TestEachBitCounts(t *testing.T) {
	r := rand.New(rand.NewSource(3))
	key, b := randomText(r, 32), randomBlock(r)
	seen := map[[16]byte]bool{New(key).Block(b): true}
	for bit := range 128 {
		other := b
		other[bit/8] ^= 1 << (bit % 8)
		seen[New(key).Block(other)] = true
	}
	for bit := range 256 {
		other := []byte(key)
		other[bit/8] ^= 1 << (bit % 8)
		seen[New(string(other)).Block(b)] = true
	}
	if len(seen) != 1+128+256 {
		t.Errorf("%d of them", len(seen))
	}
}

// P25.1: a key has 32 bytes; of others, those of AES's shorter keys too, there is no cipher.
func TestKeysOfOtherLengths(t *testing.T) {
	for n := range 300 {
		if c := New(strings.Repeat("k", n)); (c == nil) != (n != 32) {
			t.Errorf("%d bytes: %v", n, c != nil)
		}
	}
	for _, n := range []int{512, 32 + 1<<8, 32 + 1<<16, 1 << 20} {
		if New(strings.Repeat("\x00", n)) != nil {
			t.Errorf("%d bytes", n)
		}
	}
	if New(strings.Repeat("é", 32)) != nil || New(strings.Repeat("é", 16)) == nil {
		t.Error("bytes count, not signs")
	}
}

// P1, P25.1: of no cipher, a zero block and the empty text.
func TestNil(t *testing.T) {
	var c *Cipher
	b := [16]byte{1, 2, 3}
	if got := c.Block(b); got != [16]byte{} {
		t.Errorf("block %x", got)
	}
	for _, s := range []string{"", "x", strings.Repeat("x", 100)} {
		if got := c.Ctr(b, s); got != "" {
			t.Errorf("text %x", got)
		}
	}
	if got := New("short").Ctr(b, "text"); got != "" {
		t.Errorf("text %x", got)
	}
}

// P25.1: texts that are known from elsewhere: that of SP 800-38A, whole and less than whole, and such as another program made, past the greatest number.
func TestKnownTexts(t *testing.T) {
	text := "6bc1bee22e409f96e93d7e117393172aae2d8a571e03ac9c9eb76fac45af8e5130c81c46a35ce411e5fbc1191a0a52eff69f2445df4f9b17ad2b417be66c3710"
	turned := "601ec313775789a5b7a7f504bbf3d228f443e3ca4d62b59aca84e990cacaf5c52b0930daa23de94ce87017ba2d84988ddfc9c58db67aada613c2dd08457941a6"
	iv := "f0f1f2f3f4f5f6f7f8f9fafbfcfdfeff"
	for _, c := range []struct{ key, iv, text, want string }{
		{longKey, iv, text, turned},
		{longKey, iv, turned, text},
		{longKey, iv, text[:34], turned[:34]},
		{longKey, iv, text[:30], turned[:30]},
		{longKey, iv, text[:2], turned[:2]},
		{longKey, iv, "", ""},
		{longKey, strings.Repeat("ff", 16), strings.Repeat("00", 40), "3b3c2921c85a24de9ac606ce6d1d60cce568f68194cf76d6174d4cc04310a85491151e5d0b7a1f1b"},
		{longKey, "00000000000000ffffffffffffffffff", strings.Repeat("00", 33), "0d829d4421235ef5f9ad3755c8a54d8e0ace370f7b14652a7f2e9be6fd64d6df74"},
	} {
		got := New(fromHex(t, c.key)).Ctr(blockOf(fromHex(t, c.iv)), fromHex(t, c.text))
		if hex.EncodeToString([]byte(got)) != c.want {
			t.Errorf("iv %s, text %s: %x, want %s", c.iv, c.text, got, c.want)
		}
	}
}

// P25.1, P25.2: texts of all short lengths and a long one, so that the last bytes are as many as there can be; twice, they are themselves.
func TestCtrIsTheLibrarys(t *testing.T) {
	r := rand.New(rand.NewSource(4))
	check := func(iv [16]byte, s string) {
		t.Helper()
		key := randomText(r, 32)
		c := New(key)
		got := c.Ctr(iv, s)
		if got != otherCtr(key, iv, s) {
			t.Errorf("key %x, iv %x, %d bytes: another text", key, iv, len(s))
		}
		if c.Ctr(iv, got) != s {
			t.Errorf("key %x, iv %x, %d bytes: not itself again", key, iv, len(s))
		}
	}
	for n := range 200 {
		check(randomBlock(r), randomText(r, n))
		check([16]byte{}, strings.Repeat("\x00", n))
		check(randomBlock(r), strings.Repeat("\xff", n))
	}
	check([16]byte{}, randomText(r, 1<<21+5))
}

// P25.1: the counter: each byte is counted up where all below it are through, and nothing is above the highest.
func TestCounter(t *testing.T) {
	r := rand.New(rand.NewSource(5))
	key := randomText(r, 32)
	c := New(key)
	for through := range 17 {
		for _, above := range []byte{0, 0x7F, 0xFE} {
			var iv, behind [16]byte
			for i := range iv {
				iv[i], behind[i] = above, above
				if i >= 16-through {
					iv[i], behind[i] = 0xFF, 0
				}
			}
			if through < 16 {
				behind[15-through]++
			}
			got, b, d := c.Ctr(iv, strings.Repeat("\x00", 32)), c.Block(iv), c.Block(behind)
			if got != string(b[:])+string(d[:]) || got != otherCtr(key, iv, strings.Repeat("\x00", 32)) {
				t.Errorf("iv %x: %x", iv, got)
			}
		}
	}
	last := [16]byte{13: 0xFF, 14: 0xFF, 15: 0xF0}
	got, again := c.Ctr(last, strings.Repeat("\x00", 16*40)), c.Block([16]byte{12: 1, 15: 23})
	if got[16*39:] != string(again[:]) {
		t.Error("40 blocks on")
	}
}

// P25.1: of a text's beginning, the beginning; and from a block on, what the counter gives there.
func TestCtrByParts(t *testing.T) {
	r := rand.New(rand.NewSource(6))
	c, iv, s := New(randomText(r, 32)), [16]byte{}, randomText(r, 100)
	all := c.Ctr(iv, s)
	for n := range len(s) + 1 {
		if c.Ctr(iv, s[:n]) != all[:n] {
			t.Errorf("%d bytes", n)
		}
		from := [16]byte{15: byte(n / 16)}
		if at := n / 16 * 16; c.Ctr(from, s[at:]) != all[at:] {
			t.Errorf("from %d on", at)
		}
	}
}

// Rules: an answer depends on key and arguments alone, not on what was asked before, or is beside it.
func TestRules(t *testing.T) {
	r := rand.New(rand.NewSource(7))
	key, text, b := randomText(r, 32), randomText(r, 500), randomBlock(r)
	c, iv := New(key), b
	block, turned := c.Block(b), c.Ctr(iv, text)
	var all sync.WaitGroup
	for n := range 40 {
		all.Go(func() {
			for range 10 {
				if c.Block(b) != block || New(key).Ctr(iv, text) != turned {
					t.Error("the same asked again")
				}
				if s := text[n : 10*n]; n > 0 && c.Ctr(iv, s) != otherCtr(key, iv, s) {
					t.Errorf("%d bytes", len(s))
				}
			}
		})
	}
	all.Wait()
	if other := New(text[:32]); other.Block(b) != otherBlock(text[:32], b) || c.Block(b) != block {
		t.Error("another cipher")
	}
	if b != iv {
		t.Error("what was handed in was changed")
	}
}
