package keys

import (
	"encoding/hex"
	"math"
	"math/rand"
	"strings"
	"sync"
	"testing"
)

func randomText(r *rand.Rand, n int) string {
	b := make([]byte, n)
	r.Read(b)
	return string(b)
}

// from answers the sixteen bytes from n on.
func from(n int) string {
	b := make([]byte, 16)
	for i := range b {
		b[i] = byte(n + i)
	}
	return string(b)
}

// P26.1: keys that another program made.
func TestKnownKeys(t *testing.T) {
	for _, c := range []struct {
		password, salt string
		power          int
		cipher, sum    string
	}{
		{"", "", 0, "8263dfc18cb1268b6c019fecf1d1c048a08fd0acf52311126c03d3e41f0c057d", "f28730318b91b87fe758cca02fff45da96085e9e8ad5a6904098a3a71d12ec53"},
		{"p", "salt", 0, "b0ac610028717ddb0a2d60119c9262485152c0ffb967df3ebc83d209a0a66738", "037e5d674b9a148d6f62ee08bcbfbf2a15cca0b7fbae933bcbbb834c4d497d7f"},
		{"p", "salt", 1, "a02eb485c6805ca1e04ee98ef85fbf7ba4a0c184ca5340407da1d4f524b3f366", "fd4b56afcab2d5a9c07e78914b653c52e73ba5c7baab0c36da118856d6fb0e33"},
		{"password", from(0), 4, "7055a56350d04b635c9d550a9003aa55b825687fa1e2bc5d961e5901313f505a", "2513dc1cdd7128ab52096238577d76c814624565b87ef29c54e0cd25c288d34e"},
		{"\xff\x00\x80", strings.Repeat("\x00", 16), 9, "287213aa27e80dc81e6bb5a602b095a4e48940be2d3aa75f340a11ff94b7c114", "26ef65d40361bb36338e305262a587eb241e90e03c418757da5e280397975e1b"},
		{"é", from(240), 10, "c978492559c156f2507a1cac81e75a4f42d6be589962ba8b6d4c42a45170e329", "6ada06d951f39812f7009a46101bc40cd01369ec021ed039e57a29388ef042d3"},
		{strings.Repeat("x", 100), "", 3, "911035be1941fc2190a05a492528fbc62290ae879dd05972227dac7a56e72910", "a7ba6607f933ba9e888d72bc6a88766d2e36b779fb8e36998058769f035865d8"},
		{"", strings.Repeat("y", 64), 17, "ffcfb5b29a851ba634437dc4ab071934307a91c5380f418829f833f67384ccd4", "8dcaede5474d94b95b36e3328b6e1d68f2ceddda9f06e53012b0ed42907aa75e"},
	} {
		k := Derive(c.password, c.salt, c.power)
		if got := hex.EncodeToString([]byte(k.Cipher)); got != c.cipher {
			t.Errorf("%.9q, %.9q, %d: Cipher is %s, want %s", c.password, c.salt, c.power, got, c.cipher)
		}
		if got := hex.EncodeToString([]byte(k.Sum)); got != c.sum {
			t.Errorf("%.9q, %.9q, %d: Sum is %s, want %s", c.password, c.salt, c.power, got, c.sum)
		}
	}
}

// P26.1: beside the chapter, word by word: each power whose rounds are told by one byte, by two or by three.
func TestPowers(t *testing.T) {
	for power := range 18 {
		if got, want := Derive("password", from(7), power), plainDerive("password", from(7), power); got != want {
			t.Errorf("%d: %x, want %x", power, got, want)
		}
	}
}

// P26.1: passwords and salts of all short lengths and of long ones, whether they are UTF-8 or not.
func TestTexts(t *testing.T) {
	r := rand.New(rand.NewSource(1))
	check := func(password, salt string, power int) {
		t.Helper()
		if got, want := Derive(password, salt, power), plainDerive(password, salt, power); got != want {
			t.Errorf("%d bytes, %d bytes, %d: %x, want %x", len(password), len(salt), power, got, want)
		}
	}
	for n := range 150 {
		check(randomText(r, n), randomText(r, 16), r.Intn(4))
		check(randomText(r, r.Intn(80)), randomText(r, n), r.Intn(4))
	}
	check(randomText(r, 1<<20), randomText(r, 1<<20+1), 1)
}

// P26.1: a power below 0 counts as 0.
func TestPowerBelow(t *testing.T) {
	want := plainDerive("p", "salt", 0)
	for _, power := range []int{0, -1, -2, -5, -20, -63, -64, math.MinInt32, math.MinInt} {
		if got := Derive("p", "salt", power); got != want {
			t.Errorf("%d: %x", power, got)
		}
	}
	if Derive("p", "salt", 1) == want {
		t.Error("1 counts as 0")
	}
}

// P26.1: a power above MaxRounds counts as that one; the one ahead of it as itself.
func TestPowerAbove(t *testing.T) {
	const cipher, sum = "5d5d4952097e136c0e34a4db803b6c98790313dd30e48eb5b922f11ef61b5d37", "05ffef0a54cce5b0cbb7b498ff492dc649e5899089d661a9318a08c3a444bf64"
	var all sync.WaitGroup
	for _, power := range []int{20, 21, 62, 63, 64, math.MaxInt} {
		all.Go(func() {
			k := Derive("password", from(0), power)
			if hex.EncodeToString([]byte(k.Cipher)) != cipher || hex.EncodeToString([]byte(k.Sum)) != sum {
				t.Errorf("%d: %x", power, k)
			}
		})
	}
	all.Go(func() {
		if got, want := Derive("password", from(0), 19), plainDerive("password", from(0), 19); got != want {
			t.Errorf("19: %x, want %x", got, want)
		}
	})
	all.Wait()
}

// P26.1: both have 32 bytes, and no two are the same: of one password, or of others, under other salts, by other powers.
func TestOthers(t *testing.T) {
	seen := map[string]string{}
	for _, password := range []string{"", "p", "P", "pp", "p\x00", "\x00"} {
		for _, salt := range []string{from(0), from(1), strings.Repeat("\x00", 16)} {
			for power := range 6 {
				k := Derive(password, salt, power)
				for _, key := range []string{k.Cipher, k.Sum} {
					here := password + ", " + salt + ", " + string(rune('0'+power))
					if len(key) != 32 {
						t.Errorf("%q: %d bytes", here, len(key))
					}
					if other, ok := seen[key]; ok {
						t.Errorf("%q and %q: the same", here, other)
					}
					seen[key] = here
				}
			}
		}
	}
}

// P26.1: the salt stands ahead of the password, and nothing between.
func TestSaltFirst(t *testing.T) {
	if Derive("cd", "ab", 2) != Derive("d", "abc", 2) || Derive("abcd", "", 2) != Derive("", "abcd", 2) {
		t.Error("parted elsewhere")
	}
	if Derive("ab", "cd", 2) == Derive("cd", "ab", 2) {
		t.Error("password and salt the other way about")
	}
}

// Rules: Keys have these fields alone, and are the same just if both are; an answer depends on what was handed in alone, not on what was asked before, or is beside it.
func TestRules(t *testing.T) {
	if k := (Keys{"a", "b"}); k != (Keys{Cipher: "a", Sum: "b"}) || k == (Keys{"b", "a"}) || k == (Keys{"a", ""}) {
		t.Error("fields")
	}
	r := rand.New(rand.NewSource(2))
	text := randomText(r, 300)
	var all sync.WaitGroup
	for n := range 20 {
		all.Go(func() {
			password, salt := text[n:10*n+n], text[n:n+16]
			want := plainDerive(password, salt, n%8)
			for range 5 {
				if Derive(password, salt, n%8) != want {
					t.Errorf("%d bytes", len(password))
				}
			}
		})
	}
	all.Wait()
}
