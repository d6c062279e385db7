package packet

import (
	"math"
	"math/rand"
	"slices"
	"strings"
	"testing"

	"cassone/api"
)

func lit(b byte) Packet        { return Packet{Kind: Lit, Byte: b} }
func match(dist, n int) Packet { return Packet{Kind: Match, Dist: dist, Len: n} }
func rep(i, n int) Packet      { return Packet{Kind: Rep, Dist: i, Len: n} }
func short() Packet            { return Packet{Kind: Short} }

// The kinds are numbers that others may write down.
func TestKinds(t *testing.T) {
	if Lit != 1 || Match != 2 || Rep != 3 || Short != 4 {
		t.Error(Lit, Match, Rep, Short)
	}
}

// P6.1, Fits: what it tells of those that fit.
func TestFits(t *testing.T) {
	r := Reps{5, 6, 7, 8}
	far := Reps{api.MaxDist, api.MaxDist + 1, math.MaxInt, 1}
	for _, c := range []struct {
		p       Packet
		have    int
		r       Reps
		dist, n int
		next    Reps
	}{
		{lit(0), 0, r, 0, 1, r},
		{lit('a'), 0, r, 0, 1, r},
		{lit(255), math.MaxInt, r, 0, 1, r},
		{match(1, 2), 1, r, 1, 2, Reps{1, 5, 6, 7}},
		{match(9, 273), 9, r, 9, 273, Reps{9, 5, 6, 7}},
		{match(6, 3), 100, r, 6, 3, Reps{6, 5, 6, 7}},
		{match(api.MaxDist, 2), api.MaxDist, r, api.MaxDist, 2, Reps{api.MaxDist, 5, 6, 7}},
		{match(api.MaxDist, 2), math.MaxInt, r, api.MaxDist, 2, Reps{api.MaxDist, 5, 6, 7}},
		{rep(0, 2), 5, r, 5, 2, Reps{5, 6, 7, 8}},
		{rep(1, 273), 6, r, 6, 273, Reps{6, 5, 7, 8}},
		{rep(2, 3), 7, r, 7, 3, Reps{7, 5, 6, 8}},
		{rep(3, 4), 8, r, 8, 4, Reps{8, 5, 6, 7}},
		{rep(3, 2), 1, far, 1, 2, Reps{1, far[0], far[1], far[2]}},
		{rep(1, 2), math.MaxInt, far, far[1], 2, Reps{far[1], far[0], far[2], 1}},
		{rep(2, 2), math.MaxInt, far, far[2], 2, Reps{far[2], far[0], far[1], 1}},
		{short(), 5, r, 5, 1, r},
		{short(), 1, First(), 1, 1, First()},
		{short(), math.MaxInt, r, 5, 1, r},
		// The chapter asks of no last distance to be 1 or more.
		{short(), 0, Reps{0, 6, 7, 8}, 0, 1, Reps{0, 6, 7, 8}},
		{rep(1, 2), -3, Reps{1, -3, 7, 8}, -3, 2, Reps{-3, 1, 7, 8}},
		{lit('a'), -1, r, 0, 1, r},
	} {
		dist, n, next, ok := c.p.Fits(c.have, c.r)
		if !ok || dist != c.dist || n != c.n || next != c.next {
			t.Errorf("%+v behind %d, %v: %d, %d, %v, %v", c.p, c.have, c.r, dist, n, next, ok)
		}
	}
}

// P6.1, Fits: 0, 0, r and false of those that don't.
func TestFitsNot(t *testing.T) {
	r := Reps{5, 6, 7, 8}
	for _, c := range []struct {
		p    Packet
		have int
	}{
		{Packet{}, 100},
		{Packet{Kind: 5}, 100},
		{Packet{Kind: -1}, 100},
		{Packet{Kind: math.MaxInt}, 100},
		{Packet{Kind: math.MinInt}, 100},
		{Packet{Byte: 'a'}, 100},
		{Packet{Dist: 1, Len: 2}, 100},
		{Packet{Kind: 5, Dist: 1, Len: 2}, 100},
		{Packet{Kind: Lit, Byte: 'a', Dist: 1}, 100},
		{Packet{Kind: Lit, Byte: 'a', Len: 1}, 100},
		{Packet{Kind: Lit, Dist: -1}, 100},
		{Packet{Kind: Lit, Len: -1}, 100},
		{match(0, 2), 100},
		{match(-1, 2), 100},
		{match(math.MinInt, 2), 100},
		{match(1, 2), 0},
		{match(1, 2), -1},
		{match(1, 2), math.MinInt},
		{match(101, 2), 100},
		{match(math.MaxInt, 2), 100},
		{match(api.MaxDist, 2), api.MaxDist - 1},
		{match(api.MaxDist+1, 2), math.MaxInt},
		{match(math.MaxInt, 2), math.MaxInt},
		{match(1, 1), 100},
		{match(1, 0), 100},
		{match(1, -2), 100},
		{match(1, 274), 100},
		{match(1, math.MaxInt), 100},
		{match(1, math.MinInt), 100},
		{Packet{Kind: Match, Dist: 1, Len: 2, Byte: 1}, 100},
		{rep(4, 2), 100},
		{rep(-1, 2), 100},
		{rep(math.MaxInt, 2), 100},
		{rep(math.MinInt, 2), 100},
		{rep(0, 1), 100},
		{rep(0, 0), 100},
		{rep(0, 274), 100},
		{rep(0, math.MinInt), 100},
		{rep(0, 2), 4},
		{rep(1, 2), 5},
		{rep(2, 2), 6},
		{rep(3, 2), 7},
		{rep(0, 2), 0},
		{rep(0, 2), -1},
		{Packet{Kind: Rep, Len: 2, Byte: 1}, 100},
		{short(), 4},
		{short(), 0},
		{short(), math.MinInt},
		{Packet{Kind: Short, Dist: 1}, 100},
		{Packet{Kind: Short, Len: 1}, 100},
		{Packet{Kind: Short, Byte: 1}, 100},
	} {
		dist, n, next, ok := c.p.Fits(c.have, r)
		if ok || dist != 0 || n != 0 || next != r {
			t.Errorf("%+v behind %d: %d, %d, %v, %v", c.p, c.have, dist, n, next, ok)
		}
	}
}

// wantText holds what a list tells, with so much room, against what is asked.
func wantText(t *testing.T, l []Packet, most int, want string, err api.Errno) {
	t.Helper()
	before := slices.Clone(l)
	if got, e := Apply(l, most); got != want || e != err {
		t.Errorf("%+v of %d: %q, %d, want %q, %d", l, most, got, e, want, err)
	}
	if !slices.Equal(l, before) {
		t.Errorf("changed: %+v", l)
	}
}

// P6.2: texts, just as long as they may be, and one byte more than that.
func TestApply(t *testing.T) {
	for _, c := range []struct {
		l    []Packet
		want string
	}{
		{[]Packet{lit('a')}, "a"},
		{[]Packet{lit(0), lit(255)}, "\x00\xff"},
		{[]Packet{lit('a'), match(1, 3)}, "aaaa"},
		{[]Packet{lit('a'), rep(0, 3)}, "aaaa"},
		{[]Packet{lit('a'), rep(3, 3)}, "aaaa"},
		{[]Packet{lit('a'), short()}, "aa"},
		{[]Packet{lit('a'), lit('b'), match(2, 3)}, "ababa"},
		{[]Packet{lit('a'), lit('b'), match(2, 3), lit('c'), match(2, 2), short()}, "ababacaca"},
		{[]Packet{lit('a'), lit('b'), lit('c'), match(3, 2), short(), lit('x'), rep(1, 2), short(), rep(1, 2)}, "abcabcxxxxxx"},
		{[]Packet{lit('a'), lit('b'), lit('c'), match(3, 2), match(2, 2), lit('x'), rep(1, 2), lit('y'), rep(1, 3)}, "abcabab" + "x" + "ab" + "y" + "byb"},
		{[]Packet{lit('q'), match(1, 273)}, strings.Repeat("q", 274)},
	} {
		for _, most := range []int{len(c.want), len(c.want) + 1, 1 << 24, math.MaxInt} {
			wantText(t, c.l, most, c.want, api.OK)
		}
		for _, most := range []int{len(c.want) - 1, 0, -1, math.MinInt} {
			wantText(t, c.l, most, "", api.ErrLong)
		}
	}
}

// P6.2: no packets tell the empty text, whatever room there is.
func TestApplyNone(t *testing.T) {
	for _, most := range []int{math.MinInt, -1, 0, 1, math.MaxInt} {
		wantText(t, nil, most, "", api.OK)
		wantText(t, []Packet{}, most, "", api.OK)
	}
}

// P6.2: the first packet that is wrong tells its error; of one by which both hold, it is ErrForm.
func TestApplyErrors(t *testing.T) {
	for _, c := range []struct {
		l    []Packet
		most int
		err  api.Errno
	}{
		{[]Packet{short()}, 9, api.ErrForm},
		{[]Packet{rep(0, 2)}, 9, api.ErrForm},
		{[]Packet{match(1, 2)}, 9, api.ErrForm},
		{[]Packet{match(1, 2)}, 0, api.ErrForm},
		{[]Packet{{}}, 9, api.ErrForm},
		{[]Packet{{Kind: 5}}, -1, api.ErrForm},
		{[]Packet{lit('a'), match(2, 2)}, 9, api.ErrForm},
		{[]Packet{lit('a'), match(1, 1)}, 9, api.ErrForm},
		{[]Packet{lit('a'), match(1, 274)}, 1, api.ErrForm},
		{[]Packet{lit('a'), rep(4, 2)}, 1, api.ErrForm},
		{[]Packet{lit('a'), {Kind: Short, Len: 1}}, 9, api.ErrForm},
		{[]Packet{lit('a'), {Kind: Lit, Len: 1}}, 9, api.ErrForm},
		{[]Packet{lit('a'), lit('b'), {}}, 1, api.ErrLong},
		{[]Packet{lit('a'), {}, lit('b')}, 1, api.ErrForm},
		{[]Packet{lit('a'), match(1, 9), short()}, 9, api.ErrLong},
		{[]Packet{lit('a'), short()}, 1, api.ErrLong},
		{[]Packet{lit('a'), rep(2, 2)}, 2, api.ErrLong},
	} {
		wantText(t, c.l, c.most, "", c.err)
	}
}

// P6.2: a match may lie MaxDist back, and no more.
func TestApplyGreatestDistance(t *testing.T) {
	l := []Packet{lit('x'), lit('y'), lit('z')}
	have := 3
	for have <= api.MaxDist {
		n := max(2, min(api.MaxLen, api.MaxDist+1-have))
		l = append(l, match(1, n))
		have += n
	}
	back := api.MaxDist - (have - api.MaxDist)
	s, e := Apply(append(slices.Clone(l), match(api.MaxDist, 2), match(back, 2)), api.MaxTotal)
	want := "xy" + strings.Repeat("z", have-2)
	want += want[have-api.MaxDist:][:2]
	want += want[have+2-back:][:2]
	if s != want || e != api.OK {
		t.Errorf("%d bytes, %d", len(s), e)
	}
	wantText(t, append(l, match(api.MaxDist+1, 2)), api.MaxTotal, "", api.ErrForm)
}

// slowApply is Apply of packets that fit, on a text, with the last distances in a list.
func slowApply(l []Packet) string {
	s, last := "", []int{1, 1, 1, 1}
	for _, p := range l {
		dist, n := last[0], 1
		switch p.Kind {
		case Lit:
			s += string([]byte{p.Byte})
			continue
		case Match:
			dist, n = p.Dist, p.Len
			last = append([]int{dist}, last[:3]...)
		case Rep:
			dist, n = last[p.Dist], p.Len
			rest := append(slices.Clone(last[:p.Dist]), last[p.Dist+1:]...)
			last = append([]int{dist}, rest...)
		}
		for range n {
			s += s[len(s)-dist : len(s)-dist+1]
		}
	}
	return s
}

// randomList of packets that fit, of few distances, so that the last ones are met again and again.
func randomList(r *rand.Rand, n int) []Packet {
	var l []Packet
	have, reps := 0, First()
	for len(l) < n {
		p := lit(byte(r.Intn(256)))
		switch r.Intn(5) {
		case 0:
			p = short()
		case 1, 2:
			p = match(1+r.Intn(6), 2+r.Intn(5))
		case 3:
			p = rep(r.Intn(4), 2+r.Intn(5))
		}
		if _, k, next, ok := p.Fits(have, reps); ok {
			l, have, reps = append(l, p), have+k, next
		}
	}
	return l
}

// P6.2: lists of all kinds, beside the slow form.
func TestApplyAgainstSlow(t *testing.T) {
	r := rand.New(rand.NewSource(1))
	for range 400 {
		l := randomList(r, r.Intn(60))
		want := slowApply(l)
		wantText(t, l, len(want), want, api.OK)
		if want != "" {
			wantText(t, l, len(want)-1, "", api.ErrLong)
		}
	}
}
