package probs

import (
	"math"
	"math/rand"
	"slices"
	"testing"

	"cassone/rc"
)

// P4.1, New: so many places, each at the start.
func TestNew(t *testing.T) {
	for _, c := range []struct{ bits, places int }{
		{math.MinInt, 1}, {-1, 1}, {0, 1}, {1, 2}, {2, 4}, {3, 8}, {8, 256}, {10, 1024},
		{15, 32768}, {16, 65536}, {17, 65536}, {64, 65536}, {math.MaxInt, 65536},
	} {
		tree := New(c.bits)
		if len(tree) != c.places {
			t.Errorf("New(%d) has %d places, want %d", c.bits, len(tree), c.places)
		}
		for i, p := range tree {
			if p != rc.Start {
				t.Errorf("New(%d): %d at %d", c.bits, p, i)
			}
		}
	}
}

// P4.1, New: trees are apart from each other.
func TestTreesAreApart(t *testing.T) {
	a, b := New(4), New(4)
	a.Put(rc.NewEncoder(), 9)
	if !slices.Equal(b, New(4)) {
		t.Error(b)
	}
}

// at is a bit by the probability at a place.
type at struct{ place, bit int }

// byHand encodes bits by places of a tree.
func byHand(e *rc.Encoder, tree Tree, l []at) {
	for _, x := range l {
		e.Bit(&tree[x.place], x.bit)
	}
}

// P4.1: which bits by which places, worked out by hand.
func TestPlaces(t *testing.T) {
	for _, c := range []struct {
		bits, v     int
		there, back []at
	}{
		{0, 0, nil, nil},
		{1, 0, []at{{1, 0}}, []at{{1, 0}}},
		{1, 1, []at{{1, 1}}, []at{{1, 1}}},
		{2, 1, []at{{1, 0}, {2, 1}}, []at{{1, 1}, {3, 0}}},
		{2, 2, []at{{1, 1}, {3, 0}}, []at{{1, 0}, {2, 1}}},
		{3, 5, []at{{1, 1}, {3, 0}, {6, 1}}, []at{{1, 1}, {3, 0}, {6, 1}}},
		{3, 6, []at{{1, 1}, {3, 1}, {7, 0}}, []at{{1, 0}, {2, 1}, {5, 1}}},
		{3, 1, []at{{1, 0}, {2, 0}, {4, 1}}, []at{{1, 1}, {3, 0}, {6, 0}}},
		{4, 11, []at{{1, 1}, {3, 0}, {6, 1}, {13, 1}}, []at{{1, 1}, {3, 1}, {7, 0}, {14, 1}}},
	} {
		for i, want := range [][]at{c.there, c.back} {
			tree, e := New(c.bits), rc.NewEncoder()
			put := []func(*rc.Encoder, int){tree.Put, tree.PutBack}[i]
			// Twice, and a bit behind: so what was learnt shows in the bytes, too.
			put(e, c.v)
			put(e, c.v)
			e.Direct(1, 1)
			other, f := New(c.bits), rc.NewEncoder()
			byHand(f, other, want)
			byHand(f, other, want)
			f.Direct(1, 1)
			if e.End() != f.End() || !slices.Equal(tree, other) {
				t.Errorf("%d of %d bits, way %d: %x %v, want %x %v", c.v, c.bits, i, e.End(), tree, f.End(), other)
			}
		}
	}
}

// P4.1, P4.3: every number of small trees, by both ways, into one row of bytes.
func TestSmallTreesBack(t *testing.T) {
	for bits := range 11 {
		puts, gets := New(bits), New(bits)
		e := rc.NewEncoder()
		for v := range 1 << bits {
			puts.Put(e, v)
			puts.PutBack(e, v)
		}
		d := rc.NewDecoder(e.End())
		for v := range 1 << bits {
			if got := gets.Get(d); got != v {
				t.Fatalf("%d bits: got %d, want %d", bits, got, v)
			}
			if got := gets.GetBack(d); got != v {
				t.Fatalf("%d bits, back: got %d, want %d", bits, got, v)
			}
		}
		if !d.Done() || d.Bad() || !slices.Equal(puts, gets) {
			t.Errorf("%d bits: done %v, bad %v", bits, d.Done(), d.Bad())
		}
		if puts[0] != rc.Start {
			t.Errorf("%d bits: the place 0 was used", bits)
		}
	}
}

// P4.1, P4.3: the edges of the greatest tree.
func TestGreatestTreeBack(t *testing.T) {
	values := []int{0, 1, 2, 255, 256, 32767, 32768, 43690, 65534, 65535}
	puts, gets := New(16), New(99)
	e := rc.NewEncoder()
	for _, v := range values {
		puts.Put(e, v)
		puts.PutBack(e, v)
	}
	d := rc.NewDecoder(e.End())
	for _, v := range values {
		if a, b := gets.Get(d), gets.GetBack(d); a != v || b != v {
			t.Errorf("got %d and %d, want %d", a, b, v)
		}
	}
	if !d.Done() || d.Bad() {
		t.Errorf("done %v, bad %v", d.Done(), d.Bad())
	}
}

// P4.1: a tree of one place puts nothing, and gets 0.
func TestTreeOfNoBits(t *testing.T) {
	tree, e := New(0), rc.NewEncoder()
	tree.Put(e, 0)
	tree.PutBack(e, 0)
	if e.End() != "\x00\x00\x00\x00\x00" {
		t.Errorf("%x", e.End())
	}
	d := rc.NewDecoder("\x00\xff\xff\xff\xff")
	if tree.Get(d) != 0 || tree.GetBack(d) != 0 || d.Direct(1) != 1 || tree[0] != rc.Start {
		t.Error("something was got")
	}
}

// P4.2: which bits by which places, worked out by hand.
func TestLikePlaces(t *testing.T) {
	for _, c := range []struct {
		v, other byte
		want     []at
	}{
		// Alike to the end.
		{0x00, 0x00, []at{{257, 0}, {258, 0}, {260, 0}, {264, 0}, {272, 0}, {288, 0}, {320, 0}, {384, 0}}},
		{0xFF, 0xFF, []at{{513, 1}, {515, 1}, {519, 1}, {527, 1}, {543, 1}, {575, 1}, {639, 1}, {767, 1}}},
		{0xA5, 0xA5, []at{{513, 1}, {259, 0}, {518, 1}, {269, 0}, {282, 0}, {564, 1}, {361, 0}, {722, 1}}},
		// Unlike from the first bit on.
		{0x00, 0xFF, []at{{513, 0}, {2, 0}, {4, 0}, {8, 0}, {16, 0}, {32, 0}, {64, 0}, {128, 0}}},
		{0xFF, 0x00, []at{{257, 1}, {3, 1}, {7, 1}, {15, 1}, {31, 1}, {63, 1}, {127, 1}, {255, 1}}},
		// Unlike in one bit, and never like again.
		{0xA5, 0xB5, []at{{513, 1}, {259, 0}, {518, 1}, {525, 0}, {26, 0}, {52, 1}, {105, 0}, {210, 1}}},
		{0xA5, 0xA4, []at{{513, 1}, {259, 0}, {518, 1}, {269, 0}, {282, 0}, {564, 1}, {361, 0}, {466, 1}}},
	} {
		tree, other := New(10), New(10)
		e, f := rc.NewEncoder(), rc.NewEncoder()
		for range 2 {
			PutLike(e, tree, c.v, c.other)
			byHand(f, other, c.want)
		}
		e.Direct(1, 1)
		f.Direct(1, 1)
		if e.End() != f.End() || !slices.Equal(tree, other) {
			t.Errorf("%02x beside %02x: %x, want %x", c.v, c.other, e.End(), f.End())
		}
	}
}

// P4.2, P4.3: every byte beside every other, in one row of bytes, by trees of unlike sizes.
func TestLikeBack(t *testing.T) {
	puts, gets := New(10), New(12)
	e := rc.NewEncoder()
	for v := range 256 {
		for other := range 256 {
			PutLike(e, puts, byte(v), byte(other))
		}
	}
	d := rc.NewDecoder(e.End())
	for v := range 256 {
		for other := range 256 {
			if got := GetLike(d, gets, byte(other)); got != byte(v) {
				t.Fatalf("%02x beside %02x: got %02x", v, other, got)
			}
		}
	}
	if !d.Done() || d.Bad() || !slices.Equal(puts, gets[:1024]) {
		t.Errorf("done %v, bad %v", d.Done(), d.Bad())
	}
	for i := range gets {
		unused := i == 0 || i == 256 || i == 512 || i >= 768
		if unused && gets[i] != rc.Start {
			t.Errorf("the place %d was used", i)
		}
	}
}

// P4.3: all ways mixed, into several trees.
func TestMixedBack(t *testing.T) {
	r := rand.New(rand.NewSource(1))
	const steps = 20000
	way, value, beside := make([]int, steps), make([]int, steps), make([]byte, steps)
	for i := range steps {
		way[i], value[i], beside[i] = r.Intn(3), r.Intn(1<<r.Intn(9)), byte(r.Intn(256))
	}
	e, puts := rc.NewEncoder(), []Tree{New(8), New(8), New(10)}
	for i := range steps {
		switch way[i] {
		case 0:
			puts[0].Put(e, value[i])
		case 1:
			puts[1].PutBack(e, value[i])
		case 2:
			PutLike(e, puts[2], byte(value[i]), beside[i])
		}
	}
	d, gets := rc.NewDecoder(e.End()), []Tree{New(8), New(8), New(10)}
	for i := range steps {
		got := 0
		switch way[i] {
		case 0:
			got = gets[0].Get(d)
		case 1:
			got = gets[1].GetBack(d)
		case 2:
			got = int(GetLike(d, gets[2], beside[i]))
		}
		if got != value[i] {
			t.Fatalf("step %d, way %d: got %d, want %d", i, way[i], got, value[i])
		}
	}
	if !d.Done() || d.Bad() || !slices.EqualFunc(puts, gets, func(a, b Tree) bool { return slices.Equal(a, b) }) {
		t.Errorf("done %v, bad %v", d.Done(), d.Bad())
	}
}

// P1: of bytes that nobody put, numbers within the tree come all the same.
func TestGetOfAnyBytes(t *testing.T) {
	r := rand.New(rand.NewSource(2))
	for range 200 {
		b := make([]byte, r.Intn(12))
		r.Read(b)
		d, tree, like := rc.NewDecoder(string(b)), New(5), New(10)
		for range 20 {
			if v := tree.Get(d); v < 0 || v > 31 {
				t.Fatalf("%x: %d", b, v)
			}
			if v := tree.GetBack(d); v < 0 || v > 31 {
				t.Fatalf("%x, back: %d", b, v)
			}
			GetLike(d, like, byte(r.Intn(256)))
		}
	}
}

// P1: what the chapter doesn't speak of ends all the same: trees of other sizes, numbers beyond the tree, no coder.
func TestOthersEnd(t *testing.T) {
	e, d := rc.NewEncoder(), rc.NewDecoder("\x00\xff\xff\xff\xff")
	for _, tree := range []Tree{nil, {}, {1}, {1, 2, 3}, New(9), make(Tree, 767), make(Tree, 1000)} {
		for _, v := range []int{math.MinInt, -1, 0, 1, 65536, math.MaxInt} {
			tree.Put(e, v)
			tree.PutBack(e, v)
		}
		tree.Get(d)
		tree.GetBack(d)
		PutLike(e, tree, 1, 2)
		GetLike(d, tree, 3)
	}
	tree := New(10)
	tree.Put(nil, 5)
	tree.PutBack(nil, 5)
	PutLike(nil, tree, 1, 2)
	if tree.Get(nil) != 0 || tree.GetBack(nil) != 0 || GetLike(nil, tree, 1) != 0 || !slices.Equal(tree, New(10)) {
		t.Error("something without a coder")
	}
}

// P1: Like's calls leave a tree that is too small for them as it is.
func TestLikeOfSmallTree(t *testing.T) {
	for _, n := range []int{0, 1, 512, 767} {
		tree, e := New(10)[:n], rc.NewEncoder()
		PutLike(e, tree, 0xFF, 0xFF)
		if e.End() != rc.NewEncoder().End() || !slices.Equal(tree, New(10)[:n]) {
			t.Errorf("%d places: something was put", n)
		}
		if GetLike(rc.NewDecoder("\x00\xff\xff\xff\xff"), tree, 0xFF) != 0 || !slices.Equal(tree, New(10)[:n]) {
			t.Errorf("%d places: something was got", n)
		}
	}
}
