package context

import (
	"math/rand"
	"testing"
)

// plainTable has signs in order, with counts.
type plainTable struct {
	signs  []byte
	counts []int
}

func (t *plainTable) count(sign byte) int {
	for i, s := range t.signs {
		if s == sign {
			return t.counts[i]
		}
	}
	return 0
}

func (t *plainTable) add(sign byte) {
	if t.count(sign) == 0 {
		t.signs, t.counts = append(t.signs, sign), append(t.counts, 0)
	}
	high := false
	for i, s := range t.signs {
		if s == sign {
			t.counts[i]++
			high = t.counts[i] > 120
		}
	}
	for i := range t.counts {
		if high {
			t.counts[i] = (t.counts[i] + 1) / 2
		}
	}
}

// plainContexts is the chapter's form: tables by their whole texts, the whole history, and cells counted anew each time.
type plainContexts struct {
	order, cells, restarts int
	history                string
	tables                 map[string]*plainTable
}

func newPlain(order, cells int) *plainContexts {
	return &plainContexts{order: order, cells: cells, tables: map[string]*plainTable{}}
}

func (c *plainContexts) last(n int) string { return c.history[len(c.history)-n:] }

func (c *plainContexts) table(k int) *plainTable {
	if k < 0 || k > len(c.history) {
		return nil
	}
	return c.tables[c.last(k)]
}

func (c *plainContexts) longest() int {
	for k := min(len(c.history), c.order); k >= 0; k-- {
		if c.table(k) != nil {
			return k
		}
	}
	return -1
}

func (c *plainContexts) left() int {
	n := c.cells
	for _, t := range c.tables {
		n -= 1 + len(t.signs)
	}
	return n
}

func (c *plainContexts) needs(sign byte, from int) int {
	n := 0
	for k := max(from, 0); k <= min(c.order, len(c.history)); k++ {
		switch t := c.table(k); {
		case t == nil:
			n += 2
		case t.count(sign) == 0:
			n++
		}
	}
	return n
}

func (c *plainContexts) learn(sign byte, from int) {
	if c.needs(sign, from) > c.left() {
		c.tables, c.history, from = map[string]*plainTable{}, "", -1
		c.restarts++
	}
	for k := max(from, 0); k <= min(c.order, len(c.history)); k++ {
		if c.table(k) == nil {
			c.tables[c.last(k)] = &plainTable{}
		}
		c.table(k).add(sign)
	}
	c.history += string([]byte{sign})
}

// found: behind how many bytes a sign is found at most.
func (c *plainContexts) found(sign byte) int {
	for k := c.longest(); k >= 0; k-- {
		if t := c.table(k); t != nil && t.count(sign) > 0 {
			return k
		}
	}
	return -1
}

// wantSame: both tell the same of the last bytes, and of their cells.
func wantSame(t *testing.T, c *Contexts, plain *plainContexts) {
	t.Helper()
	if c.Longest() != plain.longest() || c.Left() != plain.left() || c.Restarts() != plain.restarts {
		t.Fatalf("longest %d, left %d, restarts %d, not %d, %d, %d", c.Longest(), c.Left(), c.Restarts(), plain.longest(), plain.left(), plain.restarts)
	}
	for k := -2; k <= plain.order+2; k++ {
		got, want := c.Table(k), plain.table(k)
		if got == nil || want == nil {
			if got != nil || want != nil {
				t.Fatalf("table %d: %v, not %v", k, got, want)
			}
			continue
		}
		wantSigns(t, c, k, want)
	}
}

// wantSigns: the table of the last k bytes has those signs and counts.
func wantSigns(t *testing.T, c *Contexts, k int, want *plainTable) {
	t.Helper()
	signs, counts := c.Table(k).Signs()
	if string(signs) != string(want.signs) {
		t.Fatalf("table %d: signs %q, not %q", k, signs, want.signs)
	}
	for i, n := range counts {
		if n != want.counts[i] {
			t.Fatalf("table %d: counts %v, not %v", k, counts, want.counts)
		}
	}
}

// wantTable: the table of the last k bytes has those signs, each as often as counts says; without signs: there is none.
func wantTable(t *testing.T, c *Contexts, k int, signs string, counts ...int) {
	t.Helper()
	if signs == "" {
		if c.Table(k) != nil {
			t.Fatalf("there is a table of %d", k)
		}
		return
	}
	if c.Table(k) == nil {
		t.Fatalf("there is no table of %d", k)
	}
	wantSigns(t, c, k, &plainTable{[]byte(signs), counts})
}

// wantState: Longest, Left, Restarts.
func wantState(t *testing.T, c *Contexts, longest, left, restarts int) {
	t.Helper()
	if c.Longest() != longest || c.Left() != left || c.Restarts() != restarts {
		t.Fatalf("longest %d, left %d, restarts %d, not %d, %d, %d", c.Longest(), c.Left(), c.Restarts(), longest, left, restarts)
	}
}

// learnFound learns a text, each sign as found where it is.
func learnFound(c *Contexts, s string) {
	for i := range len(s) {
		k := c.Longest()
		for k >= 0 && !c.Table(k).Has(s[i]) {
			k--
		}
		c.Learn(s[i], k)
	}
}

// randomText of so many bytes of so many kinds, some of them told again.
func randomText(r *rand.Rand, n, kinds int) string {
	var b []byte
	for len(b) < n {
		if m := len(b); m > 4 && r.Intn(3) == 0 {
			at := r.Intn(m - 3)
			b = append(b, b[at:at+1+r.Intn(m-at)%20]...)
		}
		b = append(b, byte(r.Intn(kinds)))
	}
	return string(b[:n])
}
