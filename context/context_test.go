package context

import (
	"math"
	"math/rand"
	"strings"
	"testing"

	"cassone/api"
)

// P18.1: the chapter's example.
func TestExample(t *testing.T) {
	c := New(2, 64)
	wantState(t, c, -1, 64, 0)
	wantTable(t, c, 0, "")
	c.Learn('a', -1)
	wantState(t, c, 0, 62, 0)
	wantTable(t, c, 0, "a", 1)
	wantTable(t, c, 1, "")
	c.Learn('b', -1)
	wantState(t, c, 0, 59, 0)
	wantTable(t, c, 0, "ab", 1, 1)
	wantTable(t, c, 1, "")
	c.Learn('a', 0)
	wantTable(t, c, 0, "ab", 2, 1)
	wantTable(t, c, 1, "b", 1)
	wantTable(t, c, 2, "")
	wantState(t, c, 1, 55, 0)
}

// P18.1: abcabd by hand: what is found behind longer bytes is not Added to the tables of fewer.
func TestByHand(t *testing.T) {
	c := New(2, 64)
	for _, s := range []byte("abc") {
		c.Learn(s, -1)
	}
	// Tables: none: a b c (4 cells), a: b (2), b: c (2), ab: c (2).
	wantState(t, c, 0, 54, 0)
	c.Learn('a', 0)
	// And c: a (2), bc: a (2).
	wantState(t, c, 1, 50, 0)
	wantTable(t, c, 0, "abc", 2, 1, 1)
	wantTable(t, c, 1, "b", 1)
	c.Learn('b', 1)
	// And ca: b (2); none has b once still.
	wantState(t, c, 2, 48, 0)
	wantTable(t, c, 0, "abc", 2, 1, 1)
	wantTable(t, c, 1, "c", 1)
	wantTable(t, c, 2, "c", 1)
	c.Learn('d', -1)
	// d in those of none, b and ab (3).
	wantState(t, c, 0, 45, 0)
	wantTable(t, c, 0, "abcd", 2, 1, 1, 1)
	c.Learn('a', 0)
	c.Learn('b', 2)
	// d: a (2), bd: a (2); da: b (2), a has b 2 times still, as it was found behind more.
	wantState(t, c, 2, 39, 0)
	wantTable(t, c, 0, "abcd", 3, 1, 1, 1)
	wantTable(t, c, 1, "cd", 1, 1)
	wantTable(t, c, 2, "cd", 1, 1)
	wantTable(t, c, 3, "")
}

// P18.1: found behind -1 and behind 0 is Added to the same tables.
func TestFromNone(t *testing.T) {
	a, b := New(3, 1000), New(3, 1000)
	plain := newPlain(3, 1000)
	for i, s := range []byte("abracadabra, abracadabra") {
		a.Learn(s, -(i % 2))
		b.Learn(s, -1)
		plain.learn(s, -1)
		wantSame(t, a, plain)
		wantSame(t, b, plain)
	}
}

// P18.1: orders below 0 are 0, those above MaxOrder are that.
func TestOrder(t *testing.T) {
	for order, want := range map[int]int{math.MinInt: 0, -1: 0, 0: 0, 1: 1, 2: 2, 15: 15, 16: 16, 17: 16, 1000: 16, math.MaxInt: 16} {
		c, plain := New(order, 5000), newPlain(want, 5000)
		for _, s := range []byte(strings.Repeat("ab", 30)) {
			c.Learn(s, -1)
			plain.learn(s, -1)
			wantSame(t, c, plain)
		}
		if c.Longest() != want || c.Table(want) == nil || c.Table(want+1) != nil {
			t.Errorf("order %d: %d", order, c.Longest())
		}
	}
}

// P18.1: cells below MinArena are that, those above MaxArena are that.
func TestCells(t *testing.T) {
	for cells, want := range map[int]int{math.MinInt: 64, -1: 64, 0: 64, 63: 64, 64: 64, 65: 65, 1000: 1000, api.MaxArena - 1: api.MaxArena - 1, api.MaxArena: api.MaxArena, api.MaxArena + 1: api.MaxArena, math.MaxInt: api.MaxArena} {
		c := New(4, cells)
		wantState(t, c, -1, want, 0)
		c.Learn('x', -1)
		wantState(t, c, 0, want-2, 0)
	}
}

// P18.1: as many free cells as all of it takes are enough, one less isn't: all are gone, the history too.
func TestRestart(t *testing.T) {
	for cells := 64; cells <= 70; cells++ {
		c := New(0, cells)
		for i := range cells - 1 {
			wantState(t, c, min(i, 1)-1, cells-min(i, 1)-i, 0)
			c.Learn(byte(i), -1)
		}
		wantState(t, c, 0, 0, 0)
		c.Learn(5, 0)
		wantState(t, c, 0, 0, 0)
		if _, n := c.Table(0).Signs(); n[5] != 2 {
			t.Fatal(n)
		}
		c.Learn(200, -1)
		wantState(t, c, 0, cells-2, 1)
		wantTable(t, c, 0, "\xc8", 1)
	}
}

// P18.1: two cells for a table that lacks, in which no cell is left over.
func TestRestartOfNewTable(t *testing.T) {
	for cells := 64; cells <= 66; cells++ {
		c, plain := New(1, cells), newPlain(1, cells)
		for i := range byte(100) {
			need, left := plain.needs(i, -1), plain.left()
			restarts := c.Restarts()
			c.Learn(i, -1)
			plain.learn(i, -1)
			wantSame(t, c, plain)
			if (c.Restarts() > restarts) != (need > left) {
				t.Fatalf("sign %d: needs %d, and %d are left", i, need, left)
			}
		}
	}
}

// P18.1: behind a restart the history is gone: no table of bytes ahead of it comes back, and the sign is learnt as found behind none, wherever it was found.
func TestRestartForgets(t *testing.T) {
	c := New(3, 64)
	s := "abcdefghabcdefgh"
	for i := 0; c.Restarts() == 0; i++ {
		c.Learn(s[i%len(s)]+byte(i/8), c.Longest())
	}
	wantState(t, c, 0, 62, 1)
	signs, n := c.Table(0).Signs()
	if len(signs) != 1 || n[0] != 1 {
		t.Fatal(signs, n)
	}
	c.Learn('y', 0)
	wantState(t, c, 0, 59, 1)
	wantTable(t, c, 0, string(signs)+"y", 1, 1)
	c.Learn(signs[0], 0)
	wantState(t, c, 1, 55, 1)
	wantTable(t, c, 1, "y", 1)
	wantTable(t, c, 2, "")
	c.Learn('y', 1)
	wantTable(t, c, 0, string(signs)+"y", 2, 1)
	wantTable(t, c, 1, string(signs), 1)
	wantTable(t, c, 2, string(signs), 1)
}

// P18.1: of so many cells that none is ever left over: the least, with the greatest order.
func TestLeastCells(t *testing.T) {
	r := rand.New(rand.NewSource(2))
	c, plain := New(16, 64), newPlain(16, 64)
	for _, s := range []byte(randomText(r, 3000, 5)) {
		k := r.Intn(plain.longest()+2) - 1
		c.Learn(s, k)
		plain.learn(s, k)
		wantSame(t, c, plain)
	}
	if c.Restarts() < 100 {
		t.Error(c.Restarts())
	}
}

// P18.1: counts are those of layer 5, that halve above 120.
func TestHalves(t *testing.T) {
	c, plain := New(2, 100), newPlain(2, 100)
	for i := range 700 {
		s := byte('a')
		if i%50 == 49 {
			s = 'b'
		}
		c.Learn(s, i%2-1)
		plain.learn(s, i%2-1)
		wantSame(t, c, plain)
	}
}

// P18.1: Table of what isn't there.
func TestNoTable(t *testing.T) {
	c := New(3, 200)
	for _, s := range []byte("aaaaaaaaaa") {
		c.Learn(s, -1)
	}
	for _, k := range []int{-1, -2, math.MinInt, 4, 5, 10, 11, 1 << 40, math.MaxInt} {
		if c.Table(k) != nil {
			t.Errorf("there is a table of %d", k)
		}
	}
	for k := range 4 {
		if c.Table(k) == nil {
			t.Errorf("there is no table of %d", k)
		}
	}
}

// P18.1: to ask changes nothing.
func TestAsking(t *testing.T) {
	r := rand.New(rand.NewSource(3))
	c, plain := New(3, 150), newPlain(3, 150)
	for _, s := range []byte(randomText(r, 500, 3)) {
		for range 5 {
			wantSame(t, c, plain)
		}
		for k := range 4 {
			if table := c.Table(k); table != nil {
				signs, counts := table.Signs()
				signs[0], counts[0] = 'z', 99
			}
		}
		c.Learn(s, -1)
		plain.learn(s, -1)
	}
}

// P18.1: of nil.
func TestNil(t *testing.T) {
	var c *Contexts
	for _, k := range []int{-1, 0, 1, math.MaxInt, math.MinInt} {
		c.Learn('a', k)
		if c.Longest() != -1 || c.Table(k) != nil || c.Left() != 0 || c.Restarts() != 0 {
			t.Error("nil has something")
		}
	}
}

// P18.1: contexts are apart from each other.
func TestApart(t *testing.T) {
	a, b := New(2, 64), New(2, 64)
	plain := newPlain(2, 64)
	for _, s := range []byte(strings.Repeat("abcabd", 20)) {
		learnFound(a, "xyz")
		b.Learn(s, -1)
		plain.learn(s, -1)
		wantSame(t, b, plain)
	}
}

// P18.1, P18.2: texts of all kinds, each sign as found where it is, beside the plain form.
func TestFoundAgainstPlain(t *testing.T) {
	r := rand.New(rand.NewSource(4))
	for _, kinds := range []int{1, 2, 4, 30, 256} {
		for _, order := range []int{0, 1, 2, 5, 16} {
			for _, cells := range []int{64, 300, 5000} {
				c, plain := New(order, cells), newPlain(order, cells)
				for _, s := range []byte(randomText(r, 400, kinds)) {
					k := plain.found(s)
					c.Learn(s, k)
					plain.learn(s, k)
					wantSame(t, c, plain)
				}
			}
		}
	}
}

// P18.1, P18.2: the same, each sign as found anywhere from -1 to Longest.
func TestAnywhereAgainstPlain(t *testing.T) {
	r := rand.New(rand.NewSource(5))
	for _, kinds := range []int{1, 2, 4, 30, 256} {
		for _, order := range []int{0, 1, 3, 16} {
			for _, cells := range []int{64, 99, 2000} {
				c, plain := New(order, cells), newPlain(order, cells)
				for _, s := range []byte(randomText(r, 400, kinds)) {
					k := r.Intn(plain.longest()+2) - 1
					c.Learn(s, k)
					plain.learn(s, k)
					wantSame(t, c, plain)
				}
			}
		}
	}
}

// P18.2: where there is a table of the last k bytes, there are tables of all fewer of them, with a sign each.
func TestAllFewer(t *testing.T) {
	r := rand.New(rand.NewSource(6))
	for _, order := range []int{1, 4, 16} {
		c := New(order, 20000)
		for _, s := range []byte(randomText(r, 20000, 6)) {
			c.Learn(s, r.Intn(c.Longest()+2)-1)
			for k := -1; k <= order+1; k++ {
				table := c.Table(k)
				if (table != nil) != (k >= 0 && k <= c.Longest()) {
					t.Fatalf("table %d, and the longest is %d", k, c.Longest())
				}
				if table == nil {
					continue
				}
				if signs, _ := table.Signs(); len(signs) == 0 {
					t.Fatalf("table %d has no sign", k)
				}
			}
		}
	}
}

// P18.1: of the greatest arena: a long text of all kinds, that fills it, and begins anew.
func TestGreatestArena(t *testing.T) {
	r := rand.New(rand.NewSource(7))
	c := New(16, api.MaxArena)
	left := api.MaxArena
	for c.Restarts() == 0 {
		left = c.Left()
		c.Learn(byte(r.Intn(256)), -1)
	}
	if left < 0 || left >= 34 || c.Left() != api.MaxArena-2 || c.Longest() != 0 {
		t.Errorf("%d were left, then %d", left, c.Left())
	}
	learnFound(c, "abcab")
	if c.Longest() != 2 {
		t.Error(c.Longest())
	}
}
