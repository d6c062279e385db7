package packet

import (
	"math"
	"math/rand"
	"slices"
	"testing"

	"cassone/api"
)

// P6.3: worked out by hand.
func TestRepeat(t *testing.T) {
	a, b, c, d := lit('a'), lit('b'), lit('c'), lit('d')
	for _, k := range []struct {
		name    string
		l, want []Packet
	}{
		{"none", nil, nil},
		{"bytes", []Packet{a, b}, []Packet{a, b}},
		{"the chapter's", []Packet{a, match(1, 3)}, []Packet{a, rep(0, 3)}},
		{"a new distance", []Packet{a, b, match(2, 3)}, []Packet{a, b, match(2, 3)}},
		{"the same again", []Packet{a, b, match(2, 3), c, match(2, 2), short()}, []Packet{a, b, match(2, 3), c, rep(0, 2), short()}},
		{"a rep of a later place", []Packet{a, rep(3, 2)}, []Packet{a, rep(0, 2)}},
		{"the second", []Packet{a, b, match(2, 2), match(1, 2)}, []Packet{a, b, match(2, 2), rep(1, 2)}},
		{
			// In l they are 2, 1, 2, 1 behind the third match, here 2, 1, 1, 1.
			"a place that isn't that of l",
			[]Packet{a, b, match(2, 2), match(1, 2), match(2, 2), rep(3, 2), rep(2, 2)},
			[]Packet{a, b, match(2, 2), rep(1, 2), rep(1, 2), rep(1, 2), rep(0, 2)},
		},
		{
			"four distances, and the one that is gone",
			[]Packet{a, b, c, d, a, match(2, 2), match(3, 2), match(4, 2), match(5, 2), match(1, 2), match(2, 2)},
			[]Packet{a, b, c, d, a, match(2, 2), match(3, 2), match(4, 2), match(5, 2), match(1, 2), match(2, 2)},
		},
		{
			"the fourth is moved, not pushed",
			[]Packet{a, b, c, d, match(2, 2), match(3, 2), match(4, 2), match(1, 2), match(2, 2)},
			[]Packet{a, b, c, d, match(2, 2), match(3, 2), match(4, 2), rep(3, 2), rep(3, 2)},
		},
		{
			"one that is gone in l, and not here",
			[]Packet{a, b, c, match(2, 2), match(3, 2), match(2, 2), match(3, 2), match(2, 2), match(1, 9)},
			[]Packet{a, b, c, match(2, 2), match(3, 2), rep(1, 2), rep(1, 2), rep(1, 2), rep(2, 9)},
		},
	} {
		if got := Repeat(k.l); !slices.Equal(got, k.want) {
			t.Errorf("%s: %+v, want %+v", k.name, got, k.want)
		}
	}
}

// distances from which each packet of a list copies; 0 of a byte.
func distances(l []Packet) []int {
	var out []int
	last := []int{1, 1, 1, 1}
	for _, p := range l {
		dist := 0
		switch p.Kind {
		case Match:
			dist = p.Dist
			last = append([]int{dist}, last[:3]...)
		case Rep:
			dist = last[p.Dist]
			last = append([]int{dist}, slices.Delete(slices.Clone(last), p.Dist, p.Dist+1)...)
		case Short:
			dist = last[0]
		}
		out = append(out, dist)
	}
	return out
}

// wantRepeat holds what is told against the promise, packet by packet.
func wantRepeat(t *testing.T, l []Packet) {
	t.Helper()
	before := slices.Clone(l)
	got := Repeat(l)
	if !slices.Equal(l, before) || len(got) != len(l) {
		t.Fatalf("%+v: %d packets; before %+v", l, len(got), before)
	}
	dists := distances(l)
	last := []int{1, 1, 1, 1}
	for i, p := range l {
		want := p
		if p.Kind == Match || p.Kind == Rep {
			at := slices.Index(last, dists[i])
			if at < 0 {
				want = match(dists[i], p.Len)
				last = last[:3]
			} else {
				want = rep(at, p.Len)
				last = slices.Delete(last, at, at+1)
			}
			last = append([]int{dists[i]}, last...)
		}
		if got[i] != want {
			t.Fatalf("%d of %+v: %+v, want %+v", i, l, got[i], want)
		}
	}
	s, e := Apply(l, api.MaxTotal)
	if u, f := Apply(got, api.MaxTotal); e != api.OK || f != e || u != s {
		t.Fatalf("%+v: %q, %d, and %q, %d", l, s, e, u, f)
	}
}

// P6.3: lists of all kinds; Apply tells the same of both.
func TestRepeatAgainstSlow(t *testing.T) {
	r := rand.New(rand.NewSource(2))
	for range 2000 {
		wantRepeat(t, randomList(r, r.Intn(80)))
	}
}

// P6.3: what was told so already stays so.
func TestRepeatTwice(t *testing.T) {
	r := rand.New(rand.NewSource(3))
	for range 200 {
		once := Repeat(randomList(r, 60))
		if !slices.Equal(Repeat(once), once) {
			t.Fatalf("%+v", once)
		}
	}
}

// P6.3: the list is new memory, and the room behind what was handed in stays as it is.
func TestRepeatIsNew(t *testing.T) {
	l := []Packet{lit('a'), match(1, 3), lit('z')}
	got := Repeat(l[:2])
	if _ = append(got, lit('q')); l[2] != lit('z') {
		t.Error("the room behind was changed")
	}
	got[0] = lit('q')
	if l[0] != lit('a') || l[1] != match(1, 3) {
		t.Errorf("shared: %+v", l)
	}
}

// P1: lists of which Apply tells no text end all the same.
func TestRepeatOfOthers(t *testing.T) {
	for _, p := range []Packet{
		{}, {Kind: 5}, rep(4, 2), rep(-1, 2), rep(math.MaxInt, 2), rep(math.MinInt, 2), rep(0, 1), rep(0, math.MaxInt),
		match(0, 2), match(math.MinInt, 2), match(9, 2), match(1, math.MaxInt), short(), {Kind: Lit, Len: math.MaxInt},
	} {
		for _, l := range [][]Packet{{p}, {lit('a'), p}, {p, p, lit('b'), match(1, 2)}} {
			if got := Repeat(l); len(got) != len(l) {
				t.Errorf("%+v: %+v", l, got)
			}
		}
	}
}
