package freq

import (
	"math/rand"
	"testing"

	"cassone/rc"
)

// P5.1, Set: how many different signs.
func TestSet(t *testing.T) {
	var s Set
	if s.Len() != 0 || s.Has(0) || s.Has(255) {
		t.Error("a zero set has signs")
	}
	for i, c := range []struct {
		sign byte
		n    int
	}{{'a', 1}, {'a', 1}, {0, 2}, {255, 3}, {0, 3}, {255, 3}, {'b', 4}} {
		s.Add(c.sign)
		if s.Len() != c.n || !s.Has(c.sign) {
			t.Errorf("step %d: %d signs", i, s.Len())
		}
	}
	for i := range 256 {
		in := i == 0 || i == 255 || i == 'a' || i == 'b'
		if s.Has(byte(i)) != in {
			t.Errorf("has %d: %v", i, !in)
		}
	}
	for i := range 256 {
		s.Add(byte(i))
	}
	if s.Len() != 256 {
		t.Errorf("all signs are %d", s.Len())
	}
}

// P5.1: sets are apart from each other, also one from its copy.
func TestSetsAreApart(t *testing.T) {
	a := *setOf("x")
	b := a
	b.Add('y')
	if a.Len() != 1 || a.Has('y') || b.Len() != 2 || !b.Has('x') {
		t.Error("a copy isn't apart")
	}
}

// P5.1, Set of nil: nothing, false, 0.
func TestNilSet(t *testing.T) {
	var s *Set
	s.Add('a')
	if s.Len() != 0 || s.Has('a') || s.Has(0) {
		t.Error("a sign of nil")
	}
}

// manySets are of all sizes below 256, with their edges.
func manySets() []*Set {
	r := rand.New(rand.NewSource(6))
	l := []*Set{nil, {}, setOf("\x00"), setOf("\xff"), setOf("\x00\xff"), setOf("a")}
	for _, n := range []int{2, 17, 128, 254, 255} {
		s := &Set{}
		for _, i := range r.Perm(256)[:n] {
			s.Add(byte(i))
		}
		l = append(l, s)
	}
	return l
}

// P5.3: worked out by hand.
func TestPutAnyParts(t *testing.T) {
	for _, c := range []struct {
		not string
		p   part
	}{
		{"", part{sign: 0, start: 0, size: 1, total: 256}},
		{"", part{sign: 'z', start: 'z', size: 1, total: 256}},
		{"", part{sign: 255, start: 255, size: 1, total: 256}},
		{"a", part{sign: 'z', start: 'z' - 1, size: 1, total: 255}},
		{"z", part{sign: 'a', start: 'a', size: 1, total: 255}},
		{"ay", part{sign: 'z', start: 'z' - 2, size: 1, total: 254}},
		{"\x00\xff", part{sign: 1, start: 0, size: 1, total: 254}},
		{"\x00\xff", part{sign: 254, start: 253, size: 1, total: 254}},
	} {
		wantPart(t, c.p, func(e *rc.Encoder) { PutAny(e, c.p.sign, setOf(c.not)) })
	}
}

// P5.3, P5.4: each sign that it can be, of sets of all sizes, which stay as they are.
func TestAnyBack(t *testing.T) {
	for _, not := range manySets() {
		before := Set{}
		if not != nil {
			before = *not
		}
		e := rc.NewEncoder()
		start := uint32(0)
		for s := range 256 {
			if not.Has(byte(s)) {
				continue
			}
			wantPart(t, part{start: start, size: 1, total: uint32(256 - not.Len())}, func(e *rc.Encoder) {
				PutAny(e, byte(s), not)
			})
			PutAny(e, byte(s), not)
			start++
		}
		d := rc.NewDecoder(e.End())
		for s := range 256 {
			if not.Has(byte(s)) {
				continue
			}
			if got := GetAny(d, not); got != byte(s) {
				t.Fatalf("%d of %d: %d", s, 256-not.Len(), got)
			}
		}
		if !d.Done() || d.Bad() || not != nil && *not != before {
			t.Errorf("%d signs: done %v, bad %v", not.Len(), d.Done(), d.Bad())
		}
	}
}

// P5.3: GetAny takes just the part of its sign.
func TestGetAnyTakes(t *testing.T) {
	r := rand.New(rand.NewSource(7))
	for _, not := range manySets() {
		b := make([]byte, 12)
		r.Read(b)
		b[0] = 0
		got, want := rc.NewDecoder(string(b)), rc.NewDecoder(string(b))
		for range 5 {
			where := want.Where(uint32(256 - not.Len()))
			want.Take(where, 1)
			sign := GetAny(got, not)
			below := uint32(0)
			for s := range sign {
				if !not.Has(s) {
					below++
				}
			}
			if not.Has(sign) || below != where {
				t.Fatalf("%d, with %d below it, want %d", sign, below, where)
			}
		}
		wantSame(t, got, want)
	}
}

// P1: what the chapter doesn't speak of, a set of all signs, ends all the same; the coders stay as they were.
func TestSetOfAll(t *testing.T) {
	all := &Set{}
	for i := range 256 {
		all.Add(byte(i))
	}
	table, _ := tableOf("aab")
	wantPart(t, part{start: 0, size: 1, total: 1}, func(e *rc.Encoder) {
		PutAny(e, 'a', all)
		if table.Put(e, 'a', all) {
			t.Error("a sign that it can't be")
		}
	})
	text := "\x00\x77\xff\xff\xff\x20\x30"
	got, want := rc.NewDecoder(text), rc.NewDecoder(text)
	for _, d := range []*rc.Decoder{got, want} {
		d.Where(5)
		d.Take(2, 1)
	}
	if GetAny(got, all) != 0 {
		t.Error("a sign where there is none")
	}
	if s, ok := table.Get(got, all); s != 0 || ok {
		t.Error("a sign that it can't be")
	}
	wantSame(t, got, want)
}
