package count

import (
	"math/rand"
	"testing"
)

func TestCount(t *testing.T) {
	for _, c := range []struct {
		n, size int
		bytes   string
	}{
		{0, 0, ""},
		{0, 1, "\x00"},
		{255, 1, "\xff"},
		{256, 2, "\x00\x01"},
		{0x1234, 2, "\x34\x12"},
		{0x123456, 3, "\x56\x34\x12"},
		{1, 4, "\x01\x00\x00\x00"},
		{1 << 24, 4, "\x00\x00\x00\x01"},
		{0x89abcdef, 4, "\xef\xcd\xab\x89"},
		{1<<32 - 1, 4, "\xff\xff\xff\xff"},
		{1<<20 - 1, 8, "\xff\xff\x0f\x00\x00\x00\x00\x00"},
	} {
		if got := Put(c.n, c.size); got != c.bytes {
			t.Errorf("Put(%d, %d): %x, want %x", c.n, c.size, got, c.bytes)
		}
		if got := Get(c.bytes); got != c.n {
			t.Errorf("Get(%x): %d, want %d", c.bytes, got, c.n)
		}
	}
}

// What has no room for its highest bytes tells the lowest ones.
func TestNoRoom(t *testing.T) {
	if got := Put(0x123456, 2); got != "\x56\x34" {
		t.Errorf("%x", got)
	}
}

func TestBack(t *testing.T) {
	r := rand.New(rand.NewSource(1))
	for range 1000 {
		n := r.Intn(1 << (1 + r.Intn(32)))
		if got := Get(Put(n, 4)); got != n {
			t.Errorf("%d, want %d", got, n)
		}
	}
}
