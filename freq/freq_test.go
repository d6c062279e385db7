package freq

import (
	"math/rand"
	"slices"
	"strings"
	"testing"

	"cassone/rc"
)

// P5.1: signs stand in the order in which they were added first.
func TestAdd(t *testing.T) {
	table := New()
	if s, n := table.Signs(); len(s) != 0 || len(n) != 0 || table.Has(0) || table.Has('a') {
		t.Errorf("a new table has %v %v", s, n)
	}
	for _, s := range []byte("zaz\x00\xffz\x00") {
		table.Add(s)
	}
	s, n := table.Signs()
	if string(s) != "za\x00\xff" || !slices.Equal(n, []int{3, 1, 2, 1}) {
		t.Errorf("%q %v", s, n)
	}
	if !table.Has('z') || !table.Has('a') || !table.Has(0) || !table.Has(255) || table.Has('b') || table.Has(1) {
		t.Error("has")
	}
}

// P5.1: 120 is no reason to halve, 121 is; each count is halved, and rounded up.
func TestAddHalves(t *testing.T) {
	for c := 1; c <= 120; c++ {
		table, _ := tableOf(strings.Repeat("b", c) + "c" + strings.Repeat("a", 120))
		if _, n := table.Signs(); !slices.Equal(n, []int{c, 1, 120}) {
			t.Fatalf("at 120: %v", n)
		}
		table.Add('a')
		s, n := table.Signs()
		if string(s) != "bca" || !slices.Equal(n, []int{(c + 1) / 2, 1, 61}) {
			t.Fatalf("at 121, with %d: %q %v", c, s, n)
		}
		table.Add('a')
		if _, n := table.Signs(); n[2] != 62 {
			t.Fatalf("behind it: %v", n)
		}
	}
	alone, _ := tableOf(strings.Repeat("x", 121+60))
	if _, n := alone.Signs(); !slices.Equal(n, []int{61}) {
		t.Errorf("twice: %v", n)
	}
}

// P5.1: many signs, beside a plain table.
func TestAddAgainstPlain(t *testing.T) {
	r := rand.New(rand.NewSource(1))
	for _, kinds := range []int{1, 2, 3, 17, 256} {
		table, plain := New(), &plainTable{}
		for range 40 {
			for _, s := range []byte(randomText(r, 300, kinds)) {
				table.Add(s)
				plain.add(s)
			}
			wantSigns(t, table, plain)
		}
	}
}

// P5.1: what Signs told is the caller's; tables are apart from each other.
func TestSignsAreNew(t *testing.T) {
	table, plain := tableOf("abcab")
	other, _ := tableOf("x")
	s, n := table.Signs()
	for i := range s {
		s[i], n[i] = 'q', 99
	}
	_, _ = append(s, 'r'), append(n, 5)
	wantSigns(t, table, plain)
	before, counts := table.Signs()
	table.Add('a')
	table.Add('d')
	if string(before) != "abc" || !slices.Equal(counts, []int{2, 2, 1}) {
		t.Errorf("%q %v", before, counts)
	}
	if s, n := other.Signs(); string(s) != "x" || !slices.Equal(n, []int{1}) {
		t.Errorf("%q %v", s, n)
	}
}

// P5.1, of nil: false, none, nothing. What it puts is of no size, so that the coders stay as they were.
func TestNilTable(t *testing.T) {
	var table *Table
	table.Add('a')
	if s, n := table.Signs(); len(s) != 0 || len(n) != 0 || table.Has('a') {
		t.Errorf("%v %v", s, n)
	}
	for _, not := range []*Set{nil, {}, setOf("a")} {
		wantPart(t, part{0, false, 0, 1, 1}, func(e *rc.Encoder) {
			if table.Put(e, 'a', not) {
				t.Error("a sign of nil")
			}
		})
		text := "\x00\xa5\x5a\x77\x10\x20\x30"
		d := rc.NewDecoder(text)
		if s, ok := table.Get(d, not); s != 0 || ok {
			t.Error("a sign of nil")
		}
		wantSame(t, d, rc.NewDecoder(text))
	}
}

// P5.2: the chapter's example, and what is left of it beside a set.
func TestPutParts(t *testing.T) {
	table, _ := tableOf("aba")
	for _, c := range []struct {
		not string
		p   part
	}{
		{"", part{'a', true, 0, 2, 5}},
		{"", part{'b', true, 2, 1, 5}},
		{"", part{'c', false, 3, 2, 5}},
		{"", part{0, false, 3, 2, 5}},
		{"a", part{'a', false, 1, 1, 2}},
		{"a", part{'b', true, 0, 1, 2}},
		{"a", part{'c', false, 1, 1, 2}},
		{"b", part{'a', true, 0, 2, 3}},
		{"b", part{'b', false, 2, 1, 3}},
		{"ab", part{'a', false, 0, 1, 1}},
		{"ab", part{'b', false, 0, 1, 1}},
		{"bca", part{'c', false, 0, 1, 1}},
		{"cz\x00", part{'a', true, 0, 2, 5}},
		{"cz\x00", part{'c', false, 3, 2, 5}},
	} {
		sets := []*Set{setOf(c.not)}
		if c.not == "" {
			sets = append(sets, nil)
		}
		for _, not := range sets {
			wantPart(t, c.p, func(e *rc.Encoder) {
				if got := table.Put(e, c.p.sign, not); got != c.p.ok {
					t.Errorf("%q but for %q: %v", c.p.sign, c.not, got)
				}
			})
		}
	}
}

// P5.2: a table without signs.
func TestEmptyTable(t *testing.T) {
	for _, not := range []*Set{nil, {}, setOf("a")} {
		wantPart(t, part{0, false, 0, 1, 1}, func(e *rc.Encoder) {
			if New().Put(e, 'a', not) {
				t.Error("a sign of a new table")
			}
		})
		text := "\x00\xff\xff\xff\xff\x20\x30"
		d := rc.NewDecoder(text)
		if s, ok := New().Get(d, not); s != 0 || ok {
			t.Error("a sign of a new table")
		}
		wantSame(t, d, rc.NewDecoder(text))
	}
}

// P5.2: each sign's part, of tables and sets of many kinds; neither is changed by it.
func TestPutAgainstPlain(t *testing.T) {
	r := rand.New(rand.NewSource(2))
	for range 60 {
		kinds := 1 + r.Intn(256)
		table, plain := tableOf(randomText(r, r.Intn(3000), kinds))
		without := randomText(r, r.Intn(kinds), kinds)
		not := setOf(without)
		before := *not
		for s := range 256 {
			p := plain.of(byte(s), []byte(without))
			wantPart(t, p, func(e *rc.Encoder) {
				if table.Put(e, byte(s), not) != p.ok {
					t.Errorf("%d: %v", s, !p.ok)
				}
			})
		}
		wantSigns(t, table, plain)
		if *not != before {
			t.Error("the set was changed")
		}
	}
}

// wantGet asks for a sign where the decoder lies at each place of the total.
func wantGet(t *testing.T, table *Table, plain *plainTable, without string) {
	t.Helper()
	not := setOf(without)
	before := *not
	l := plain.parts([]byte(without))
	for at := range l[0].total {
		e := rc.NewEncoder()
		e.Part(at, 1, l[0].total)
		e.Direct(0xA5A5A5A5, 32)
		got, want := rc.NewDecoder(e.End()), rc.NewDecoder(e.End())
		want.Where(l[0].total)
		for _, p := range l {
			if at < p.start || at-p.start >= p.size {
				continue
			}
			want.Take(p.start, p.size)
			if s, ok := table.Get(got, not); s != p.sign || ok != p.ok {
				t.Fatalf("at %d of %d: %d, %v, want %+v", at, p.total, s, ok, p)
			}
		}
		wantSame(t, got, want)
	}
	wantSigns(t, table, plain)
	if *not != before {
		t.Error("the set was changed")
	}
}

// P5.2: the sign in whose part it lies, at every place.
func TestGet(t *testing.T) {
	table, plain := tableOf("aba")
	for _, not := range []string{"", "a", "b", "ab", "c", "abc"} {
		wantGet(t, table, plain, not)
	}
	r := rand.New(rand.NewSource(3))
	for range 60 {
		kinds := 1 + r.Intn(20)
		table, plain := tableOf(randomText(r, r.Intn(150), kinds))
		wantGet(t, table, plain, randomText(r, r.Intn(kinds), kinds))
	}
}

// P5.2: the sign 0 is one like others: true tells it from none.
func TestSignZero(t *testing.T) {
	table, _ := tableOf("\x00")
	e := rc.NewEncoder()
	if !table.Put(e, 0, nil) || table.Put(e, 1, nil) {
		t.Error("put")
	}
	d := rc.NewDecoder(e.End())
	if s, ok := table.Get(d, nil); s != 0 || !ok {
		t.Error("not 0")
	}
	if s, ok := table.Get(d, nil); s != 0 || ok {
		t.Error("not none")
	}
}

// P5.2: of bytes that nobody put there is an answer, too, and all of it is within the table.
func TestGetOfAnyBytes(t *testing.T) {
	r := rand.New(rand.NewSource(4))
	table, _ := tableOf("abracadabra")
	for range 500 {
		b := make([]byte, r.Intn(12))
		r.Read(b)
		d := rc.NewDecoder(string(b))
		for range 40 {
			if s, ok := table.Get(d, setOf("b")); ok && (s == 'b' || !table.Has(s)) || !ok && s != 0 {
				t.Fatalf("%x: %d, %v", b, s, ok)
			}
			GetAny(d, setOf("b"))
		}
	}
}

// P5.4: step by step, of tables that learn as it goes, with sets beside them.
func TestBack(t *testing.T) {
	r := rand.New(rand.NewSource(5))
	for range 100 {
		kinds := 1 + r.Intn(256)
		text := randomText(r, 400, kinds)
		without := randomText(r, r.Intn(kinds), kinds)
		wantBack(t, text, without)
	}
}

// wantBack puts each sign of a text, by a table or else as any, and gets it again.
func wantBack(t *testing.T, text, without string) {
	t.Helper()
	e, table, not := rc.NewEncoder(), New(), setOf(without)
	for _, s := range []byte(text) {
		if !table.Put(e, s, not) && !not.Has(s) {
			PutAny(e, s, not)
		}
		table.Add(s)
	}
	d, other := rc.NewDecoder(e.End()), New()
	for i, s := range []byte(text) {
		got, ok := other.Get(d, not)
		if ok != (other.Has(s) && !not.Has(s)) {
			t.Fatalf("%d of the text: %v", i, ok)
		}
		if !ok && !not.Has(s) {
			got = GetAny(d, not)
		}
		if !not.Has(s) && got != s || not.Has(s) && got != 0 {
			t.Fatalf("%d of the text: %d, want %d", i, got, s)
		}
		other.Add(s)
	}
	if !d.Done() || d.Bad() {
		t.Errorf("done %v, bad %v", d.Done(), d.Bad())
	}
}

// P5.4: the greatest total that a table can have.
func TestBackOfGreatestTotal(t *testing.T) {
	all := ""
	for s := range 256 {
		all += string([]byte{byte(s)})
	}
	table, plain := tableOf(strings.Repeat(all, 120))
	wantSigns(t, table, plain)
	if p := plain.of(0, nil); p.total != 256*121 {
		t.Fatalf("%+v", p)
	}
	e := rc.NewEncoder()
	for s := range 256 {
		if !table.Put(e, byte(s), nil) {
			t.Fatalf("no %d", s)
		}
	}
	d := rc.NewDecoder(e.End())
	for want := range 256 {
		if s, ok := table.Get(d, nil); int(s) != want || !ok {
			t.Fatalf("%d, %v, want %d", s, ok, want)
		}
	}
	if !d.Done() || d.Bad() {
		t.Error("not done")
	}
}
