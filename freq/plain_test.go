package freq

import (
	"math/rand"
	"slices"
	"testing"

	"cassone/rc"
)

// plainTable is a table as the chapter says it, on two lists.
type plainTable struct {
	signs  []byte
	counts []int
}

func (t *plainTable) add(sign byte) {
	i := slices.Index(t.signs, sign)
	if i < 0 {
		t.signs, t.counts = append(t.signs, sign), append(t.counts, 1)
		return
	}
	t.counts[i]++
	if t.counts[i] > 120 {
		for k, c := range t.counts {
			t.counts[k] = (c + 1) / 2
		}
	}
}

// part of a total, and the sign for which it stands.
type part struct {
	sign               byte
	ok                 bool
	start, size, total uint32
}

// parts of all signs that count, in order; the last one is for none of them.
func (t *plainTable) parts(not []byte) []part {
	var l []part
	sum := uint32(0)
	for i, s := range t.signs {
		if !slices.Contains(not, s) {
			l = append(l, part{sign: s, ok: true, start: sum, size: uint32(t.counts[i])})
			sum += uint32(t.counts[i])
		}
	}
	last := part{start: sum, size: uint32(len(l))}
	if len(l) == 0 {
		last.size = 1
	}
	l = append(l, last)
	for i := range l {
		l[i].total = sum + last.size
	}
	return l
}

// of a sign: its part, or the last one.
func (t *plainTable) of(sign byte, not []byte) part {
	l := t.parts(not)
	for _, p := range l {
		if p.ok && p.sign == sign {
			return p
		}
	}
	return l[len(l)-1]
}

// tableOf: both kinds of table, to which each byte of s was added.
func tableOf(s string) (*Table, *plainTable) {
	t, plain := New(), &plainTable{}
	for i := range len(s) {
		t.Add(s[i])
		plain.add(s[i])
	}
	return t, plain
}

func setOf(s string) *Set {
	set := &Set{}
	for i := range len(s) {
		set.Add(s[i])
	}
	return set
}

func wantSigns(t *testing.T, table *Table, plain *plainTable) {
	t.Helper()
	signs, counts := table.Signs()
	if !slices.Equal(signs, plain.signs) || !slices.Equal(counts, plain.counts) {
		t.Fatalf("%v %v, want %v %v", signs, counts, plain.signs, plain.counts)
	}
	for s := range 256 {
		if table.Has(byte(s)) != slices.Contains(plain.signs, byte(s)) {
			t.Fatalf("has %d: %v", s, table.Has(byte(s)))
		}
	}
}

// encoded is what stands behind some steps; the bits behind these show what Range they left.
func encoded(steps func(e *rc.Encoder)) string {
	e := rc.NewEncoder()
	e.Direct(0x5A5, 11)
	steps(e)
	e.Direct(0xFFFFFFFF, 32)
	return e.End()
}

// wantPart says whether some steps encode just that part.
func wantPart(t *testing.T, p part, steps func(e *rc.Encoder)) {
	t.Helper()
	got := encoded(steps)
	want := encoded(func(e *rc.Encoder) { e.Part(p.start, p.size, p.total) })
	if got != want {
		t.Errorf("%x, want %x of %+v", got, want, p)
	}
}

// wantSame says whether two decoders tell the same from here on.
func wantSame(t *testing.T, a, b *rc.Decoder) {
	t.Helper()
	for i := range 48 {
		if a.Bad() != b.Bad() || a.Done() != b.Done() || a.Direct(1) != b.Direct(1) {
			t.Fatalf("decoders differ at bit %d", i)
		}
	}
}

func randomText(r *rand.Rand, n, kinds int) string {
	b := make([]byte, n)
	for i := range b {
		b[i] = byte(r.Intn(kinds))
	}
	return string(b)
}
