package aes

import (
	"encoding/binary"
	"encoding/hex"
	"testing"
)

// standardBox is FIPS 197's table of S.
const standardBox = "" +
	"637c777bf26b6fc53001672bfed7ab76" + "ca82c97dfa5947f0add4a2af9ca472c0" +
	"b7fd9326363ff7cc34a5e5f171d83115" + "04c723c31896059a071280e2eb27b275" +
	"09832c1a1b6e5aa0523bd6b329e32f84" + "53d100ed20fcb15b6acbbe394a4c58cf" +
	"d0efaafb434d338545f9027f503c9fa8" + "51a3408f929d38f5bcb6da2110fff3d2" +
	"cd0c13ec5f974417c4a77e3d645d1973" + "60814fdc222a908846eeb814de5e0bdb" +
	"e0323a0a4906245cc2d3ac629195e479" + "e7c8376d8dd54ea96c56f4ea657aae08" +
	"ba78252e1ca6b4c6e8dd741f4bbd8b8a" + "703eb5664803f60e613557b986c11d9e" +
	"e1f8981169d98e949b1e87e9ce5528df" + "8ca1890dbfe6426841992d0fb054bb16"

// P25.1: S of each byte, by FIPS 197's table, and by the chapter's words.
func TestS(t *testing.T) {
	box, plain := fromHex(t, standardBox), plainBox()
	c := New(fromHex(t, longKey))
	for x := range 256 {
		if got := byte(c.each(uint32(x))); got != box[x] || int(got) != plain[x] {
			t.Errorf("S of %02x is %02x, want %02x", x, got, box[x])
		}
	}
}

// P25.1: S of each byte of a word, at its place.
func TestEach(t *testing.T) {
	c := New(fromHex(t, longKey))
	for _, p := range []struct{ word, want uint32 }{
		{0x00000000, 0x63636363},
		{0x00010253, 0x637c77ed},
		{0xff000000, 0x16636363},
		{0x00ff0000, 0x63166363},
		{0x0000ff00, 0x63631663},
		{0x000000ff, 0x63636316},
		{0x14dff409, 0xfa9ebf01},
	} {
		if got := c.each(p.word); got != p.want {
			t.Errorf("%08x: %08x, want %08x", p.word, got, p.want)
		}
	}
}

// P25.1: the product of each byte and its inverse is 1, but for 0.
func TestInverses(t *testing.T) {
	for x, y := range inverses() {
		want := 1
		if x == 0 {
			want = 0
		}
		if got := plainProduct(x, int(y)); got != want || (x == 0 && y != 0) {
			t.Errorf("%02x and %02x: %02x", x, y, got)
		}
	}
}

// P25.1: doubles, whether their highest bit was 1 or not.
func TestDouble(t *testing.T) {
	for x := range 256 {
		if got := double(byte(x)); int(got) != plainTwice(x) || int(got) != plainProduct(x, 2) {
			t.Errorf("twice %02x is %02x", x, got)
		}
	}
	if double(0x57) != 0xae || double(0xae) != 0x47 || double(0x80) != 0x1b {
		t.Error("FIPS 197's examples")
	}
}

// P25.1: the round keys of FIPS 197's example, and those of the chapter's words.
func TestRoundKeys(t *testing.T) {
	known := map[int]string{
		0: "603deb10", 7: "0914dff4", 8: "9ba35411", 9: "8e6925af", 10: "a51a8b5f", 11: "2067fcde",
		12: "a8b09c1a", 13: "93d194cd", 14: "be49846e", 15: "b75d5b9a", 16: "d59aecb8", 20: "b5a9328a",
		56: "fe4890d1", 57: "e6188d0b", 58: "046df344", 59: "706c631e",
	}
	key := fromHex(t, longKey)
	c, plain := New(key), plainKeys(key, plainBox())
	if len(c.keys) != 60 {
		t.Fatalf("%d words", len(c.keys))
	}
	for i, w := range c.keys {
		var b [4]byte
		binary.BigEndian.PutUint32(b[:], w)
		if want, ok := known[i]; ok && hex.EncodeToString(b[:]) != want {
			t.Errorf("W%d is %x, want %s", i, b, want)
		}
		for n, x := range b {
			if int(x) != plain[i][n] {
				t.Errorf("W%d is %x, want %x", i, b, plain[i])
			}
		}
	}
}
