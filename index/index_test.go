package index

import (
	"encoding/hex"
	"math"
	"math/rand"
	"slices"
	"strings"
	"sync"
	"testing"

	"cassone/api"
)

func wantEncode(t *testing.T, l []Entry, want string) {
	t.Helper()
	if b, e := Encode(l); b != want || e != api.OK {
		t.Errorf("%d entries: %.60x, %d, want %.60x", len(l), b, e, want)
	}
}

// wantNoIndex: ErrParam, and nothing else.
func wantNoIndex(t *testing.T, l []Entry) {
	t.Helper()
	if b, e := Encode(l); b != "" || e != api.ErrParam {
		t.Errorf("%d entries: %.60x, %d", len(l), b, e)
	}
}

func wantItems(t *testing.T, b string, want []Item) {
	t.Helper()
	if l, e := Decode(b); !slices.Equal(l, want) || e != api.OK {
		t.Errorf("Decode(%.60x): %.200v, %d, want %.200v", b, l, e, want)
	}
}

// plainItems of an index.
func plainItems(t *testing.T, b string) []Item {
	t.Helper()
	l, e := plainDecode(b)
	if e != api.OK {
		t.Fatal(e)
	}
	return l
}

// wantNoItems: ErrForm, and nothing else.
func wantNoItems(t *testing.T, b string) {
	t.Helper()
	if l, e := Decode(b); len(l) != 0 || e != api.ErrForm {
		t.Errorf("Decode(%.60x): %.200v, %d", b, l, e)
	}
}

// wantBack: by Part of what Decode of Encode tells, and of Text.
func wantBack(t *testing.T, l []Entry) {
	t.Helper()
	b, e := Encode(l)
	if e != api.OK {
		t.Fatalf("%d entries: %d", len(l), e)
	}
	items, e := Decode(b)
	if e != api.OK || Total(items) != len(Text(l)) {
		t.Fatalf("%d entries: %d, %d bytes of %d", len(l), e, Total(items), len(Text(l)))
	}
	if parts, ok := Part(items, Text(l)); !ok || !slices.Equal(parts, l) {
		t.Errorf("%d entries: others", len(l))
	}
}

// wantNoParts: false, and nothing else.
func wantNoParts(t *testing.T, l []Item, s string) {
	t.Helper()
	if parts, ok := Part(l, s); len(parts) != 0 || ok {
		t.Errorf("Part(%v, %.60q): %q, %v", l, s, parts, ok)
	}
}

// P27.1: the chapter's example, and others worked out by hand.
func TestKnownBytes(t *testing.T) {
	for _, c := range []struct {
		l     []Entry
		known string
	}{
		{nil, "00000000"},
		{[]Entry{}, "00000000"},
		{[]Entry{{"a", "xyz"}}, "01000000 0100 61 03000000"},
		{[]Entry{{"", ""}}, "01000000 0000 00000000"},
		{[]Entry{{"", "x"}}, "01000000 0000 01000000"},
		{[]Entry{{"ab", ""}, {"", ""}, {"ab", "\x00\xff"}}, "03000000 0200 6162 00000000 0000 00000000 0200 6162 02000000"},
		{[]Entry{{"\x00\xff", "1"}, {"é", "22"}}, "02000000 0200 00ff 01000000 0200 c3a9 02000000"},
		{[]Entry{{strings.Repeat("n", 256), strings.Repeat("d", 256)}}, "01000000 0001" + strings.Repeat("6e", 256) + "00010000"},
		{[]Entry{{strings.Repeat("n", 1000), strings.Repeat("d", 0x12345)}}, "01000000 e803" + strings.Repeat("6e", 1000) + "45230100"},
		{slices.Repeat([]Entry{{"", ""}}, 258), "02010000" + strings.Repeat("000000000000", 258)},
	} {
		known, err := hex.DecodeString(strings.ReplaceAll(c.known, " ", ""))
		if err != nil {
			t.Fatal(err)
		}
		wantEncode(t, c.l, string(known))
		var items []Item
		for _, e := range c.l {
			items = append(items, Item{e.Name, len(e.Data)})
		}
		wantItems(t, string(known), items)
		wantBack(t, c.l)
	}
}

// P27.1: as many entries as may be, and one more, whatever else is wrong.
func TestMaxEntries(t *testing.T) {
	one := Entry{"n", "d"}
	l := slices.Repeat([]Entry{one}, api.MaxEntries+1)
	wantEncode(t, l[1:], made(1024, slices.Repeat([]string{"\x01\x00n\x01\x00\x00\x00"}, 1024)...))
	wantBack(t, l[1:])
	wantBack(t, l[2:])
	wantNoIndex(t, l)
	wantNoIndex(t, make([]Entry, api.MaxEntries+1))
	wantNoIndex(t, make([]Entry, 2*api.MaxEntries))
	wantNoIndex(t, make([]Entry, 1<<16))
	l[5].Name = strings.Repeat("n", api.MaxName+1)
	wantNoIndex(t, l)
	wantNoIndex(t, l[1:])
}

// P27.1: names of as many bytes as may be, and of one more, wherever they stand.
func TestMaxName(t *testing.T) {
	long := strings.Repeat("n", api.MaxName+1)
	for at := range 5 {
		l := make([]Entry, 5)
		l[at].Name = long[1:]
		wantBack(t, l)
		l[at].Name = long
		wantNoIndex(t, l)
		l[at].Name = strings.Repeat("n", 1<<16)
		wantNoIndex(t, l)
		l[at].Name = strings.Repeat("n", 1<<16+5)
		wantNoIndex(t, l)
	}
	wantNoIndex(t, []Entry{{Name: strings.Repeat("é", api.MaxName/2+1)}})
	wantBack(t, []Entry{{Name: strings.Repeat("é", api.MaxName/2)}})
	// Each name has its own bound: together they may have more.
	wantBack(t, slices.Repeat([]Entry{{Name: long[1:]}}, api.MaxEntries))
}

// P27.1: as many bytes in all as may be, and one more, however they are spread.
func TestMaxTotal(t *testing.T) {
	s := strings.Repeat("d", api.MaxTotal+1)
	wantEncode(t, []Entry{{"", s[1:]}}, "\x01\x00\x00\x00\x00\x00\x00\x00\x00\x01")
	wantBack(t, []Entry{{"a", s[1:]}})
	wantBack(t, []Entry{{"a", s[1:]}, {"b", ""}})
	wantBack(t, []Entry{{"a", s[6:]}, {"b", "12345"}})
	wantBack(t, slices.Repeat([]Entry{{"a", s[:api.MaxTotal/api.MaxEntries]}}, api.MaxEntries))
	// The names don't count.
	wantBack(t, []Entry{{strings.Repeat("n", api.MaxName), s[1:]}})
	wantNoIndex(t, []Entry{{"a", s}})
	wantNoIndex(t, []Entry{{"a", s[1:]}, {"b", "1"}})
	wantNoIndex(t, []Entry{{"a", "1"}, {"b", ""}, {"a", s[1:]}})
	wantNoIndex(t, []Entry{{"a", s[6:]}, {"b", "123456"}})
	wantNoIndex(t, slices.Repeat([]Entry{{"a", s[:api.MaxTotal/api.MaxEntries+1]}}, api.MaxEntries))
	for _, n := range []int{2, 3, 127, 128, 255, 256, 512} {
		wantNoIndex(t, slices.Repeat([]Entry{{"a", s[1:]}}, n))
	}
}

// P27.1: an index of which bytes lack, from no byte on.
func TestDecodeLacks(t *testing.T) {
	for _, b := range []string{made(0), made(1, madeItem(1, "a", 3)), made(3, madeItem(0, "", 0), madeItem(300, strings.Repeat("n", 300), 5), madeItem(1, "\x00", 0))} {
		for n := range len(b) {
			wantNoItems(t, b[:n])
		}
		wantItems(t, b, plainItems(t, b))
	}
	one := madeItem(1, "a", 3)
	for _, n := range []uint32{2, 3, 4, 255, 256, 257, 1023, 1024} {
		wantNoItems(t, made(n, one))
	}
	// A name that would take what stands behind it.
	for _, n := range []uint16{2, 4, 5, 6, 1024} {
		wantNoItems(t, made(1, madeItem(n, "a", 3)))
	}
}

// P27.1: bytes that are left.
func TestDecodeLeft(t *testing.T) {
	one := madeItem(1, "a", 3)
	for _, b := range []string{made(0), made(1, one), made(2, one, one)} {
		for _, left := range []string{"\x00", "x", one, one[:3], made(0), made(1, one), strings.Repeat("\x00", 6), strings.Repeat("\xff", 40)} {
			wantNoItems(t, b+left)
		}
	}
	wantNoItems(t, made(0, one))
	wantNoItems(t, made(1, one, one))
}

// P27.1: an index of more entries than may be, though all of them be there.
func TestDecodeMaxEntries(t *testing.T) {
	empty := madeItem(0, "", 0)
	for _, n := range []int{1023, 1024, 1025, 1026, 2048, 65536} {
		b := made(uint32(n), strings.Repeat(empty, n))
		if n > 1024 {
			wantNoItems(t, b)
		} else {
			wantItems(t, b, make([]Item, n))
		}
	}
	for _, n := range []uint32{1025, 1 << 16, 1 << 24, 1 << 31, 1<<31 - 1, 1<<31 + 1, 1<<32 - 1} {
		wantNoItems(t, made(n))
		wantNoItems(t, made(n, empty))
		wantNoItems(t, made(n, strings.Repeat(empty, 1024)))
	}
}

// P27.1: an index of a name that is longer than may be, though it be there.
func TestDecodeMaxName(t *testing.T) {
	empty := madeItem(0, "", 0)
	for _, n := range []int{1023, 1024, 1025, 2048, 65535} {
		name := strings.Repeat("n", n)
		item := madeItem(uint16(n), name, 7)
		if n > 1024 {
			wantNoItems(t, made(1, item))
			wantNoItems(t, made(3, empty, item, empty))
		} else {
			wantItems(t, made(1, item), []Item{{name, 7}})
			wantItems(t, made(3, empty, item, empty), []Item{{}, {name, 7}, {}})
		}
	}
}

// P27.1: an index of more bytes in all than may be: of one entry, or of several.
func TestDecodeMaxTotal(t *testing.T) {
	const most = api.MaxTotal
	for _, c := range []struct {
		sizes []uint32
		ok    bool
	}{
		{[]uint32{most - 1}, true},
		{[]uint32{most}, true},
		{[]uint32{most + 1}, false},
		{[]uint32{1 << 31}, false},
		{[]uint32{1<<32 - 1}, false},
		{[]uint32{most, 0, 0}, true},
		{[]uint32{0, most - 1, 1}, true},
		{[]uint32{most, 1}, false},
		{[]uint32{1, 0, most}, false},
		{[]uint32{most / 2, most / 2}, true},
		{[]uint32{most / 2, most / 2, 1}, false},
		// What 32 bits would take for little.
		{[]uint32{1<<32 - 1, 1}, false},
		{[]uint32{1, 1<<32 - 1}, false},
		{[]uint32{1 << 31, 1 << 31}, false},
		{[]uint32{1<<32 - 5, 10}, false},
		{slices.Repeat([]uint32{1 << 30}, 4), false},
		{slices.Repeat([]uint32{1 << 24}, 256), false},
		{slices.Repeat([]uint32{1<<32 - 1}, 1024), false},
		{slices.Repeat([]uint32{1 << 22}, 1024), false},
		{slices.Repeat([]uint32{most / 1024}, 1024), true},
		{slices.Repeat([]uint32{most/1024 + 1}, 1024), false},
	} {
		var items []string
		var want []Item
		for _, n := range c.sizes {
			items = append(items, madeItem(1, "n", n))
			want = append(want, Item{"n", int(n)})
		}
		if b := made(uint32(len(items)), items...); c.ok {
			wantItems(t, b, want)
		} else {
			wantNoItems(t, b)
		}
	}
}

// P27.1: entries of all kinds, beside the plain form.
func TestAgainstPlain(t *testing.T) {
	r := rand.New(rand.NewSource(1))
	for range 2000 {
		l := anyEntries(r, r.Intn(40)>>r.Intn(6), 1500)
		want, wantE := plainEncode(l)
		if b, e := Encode(l); b != want || e != wantE {
			t.Fatalf("%d entries: %.60x, %d, want %.60x, %d", len(l), b, e, want, wantE)
		}
		if wantE == api.OK {
			wantBack(t, l)
		}
	}
}

// P1, P27.1: bytes of all kinds end, beside the plain form.
func TestDecodeAgainstPlain(t *testing.T) {
	r := rand.New(rand.NewSource(2))
	met := map[api.Errno]int{}
	for range 20000 {
		index, _ := plainEncode(anyEntries(r, r.Intn(5), 10))
		b := []byte(index)
		for range r.Intn(3) {
			b[r.Intn(len(b))] ^= 1 << r.Intn(8)
		}
		switch r.Intn(6) {
		case 0:
			b = b[:r.Intn(len(b)+1)]
		case 1:
			b = append(b, anyText(r, r.Intn(8))...)
		case 2:
			b = []byte(anyText(r, r.Intn(30)))
		}
		want, wantE := plainDecode(string(b))
		met[wantE]++
		if l, e := Decode(string(b)); !slices.Equal(l, want) || e != wantE {
			t.Fatalf("Decode(%x): %v, %d, want %v, %d", b, l, e, want, wantE)
		}
	}
	if met[api.OK] < 1000 || met[api.ErrForm] < 1000 {
		t.Error(met)
	}
}

// P27.1: all Data in order, also of entries that may not be; the names don't stand there.
func TestText(t *testing.T) {
	for _, c := range []struct {
		l    []Entry
		want string
	}{
		{nil, ""},
		{[]Entry{{"name", ""}}, ""},
		{[]Entry{{"a", "xyz"}}, "xyz"},
		{[]Entry{{"b", "xyz"}, {"a", "\x00\xff"}, {"b", ""}, {"", "xyz"}}, "xyz\x00\xffxyz"},
		{[]Entry{{strings.Repeat("n", api.MaxName+1), "one"}, {"n", "two"}}, "onetwo"},
		{slices.Repeat([]Entry{{"n", "12"}}, api.MaxEntries+5), strings.Repeat("12", api.MaxEntries+5)},
	} {
		if got := Text(c.l); got != c.want {
			t.Errorf("%d entries: %.60q, want %.60q", len(c.l), got, c.want)
		}
	}
	s := strings.Repeat("0123456789", api.MaxTotal/10+1)
	if Text([]Entry{{"a", "<"}, {"b", s}, {"c", ">"}}) != "<"+s+">" {
		t.Error("of more than MaxTotal bytes")
	}
}

// P27.2: the sum of the Sizes, of those that are below 0 too.
func TestTotal(t *testing.T) {
	for _, c := range []struct {
		sizes []int
		want  int
	}{
		{nil, 0},
		{[]int{0, 0}, 0},
		{[]int{7}, 7},
		{[]int{1, 20, 300}, 321},
		{[]int{-5}, -5},
		{[]int{10, -3}, 7},
		{[]int{-3, 10}, 7},
		{[]int{1 << 30, 1 << 30}, 1 << 31},
		{[]int{1 << 31}, 1 << 31},
		{slices.Repeat([]int{1 << 20}, 2000), 2000 << 20},
	} {
		if got := Total(itemsOfSizes(c.sizes...)); got != c.want {
			t.Errorf("%.60v: %d, want %d", c.sizes, got, c.want)
		}
	}
}

func itemsOfSizes(sizes ...int) []Item {
	var l []Item
	for i, n := range sizes {
		l = append(l, Item{string(rune('a' + i%26)), n})
	}
	return l
}

// P27.2: for each item its name, and the next bytes.
func TestPart(t *testing.T) {
	for _, c := range []struct {
		l    []Item
		s    string
		want []Entry
	}{
		{nil, "", nil},
		{[]Item{}, "", nil},
		{[]Item{{"a", 3}}, "xyz", []Entry{{"a", "xyz"}}},
		{[]Item{{"", 0}}, "", []Entry{{"", ""}}},
		{[]Item{{"a", 0}, {"b", 2}, {"a", 0}, {"", 1}, {"c", 0}}, "xyz", []Entry{{"a", ""}, {"b", "xy"}, {"a", ""}, {"", "z"}, {"c", ""}}},
		{[]Item{{"é", 1}, {"\xff", 1}}, "é", []Entry{{"é", "\xc3"}, {"\xff", "\xa9"}}},
		// Items that are none of an index.
		{[]Item{{strings.Repeat("n", api.MaxName+1), 1}}, "x", []Entry{{strings.Repeat("n", api.MaxName+1), "x"}}},
		{make([]Item, api.MaxEntries+1), "", make([]Entry, api.MaxEntries+1)},
	} {
		if got, ok := Part(c.l, c.s); !slices.Equal(got, c.want) || !ok {
			t.Errorf("Part(%.60v, %q): %.60q, %v", c.l, c.s, got, ok)
		}
	}
	s := strings.Repeat("0123456789", api.MaxTotal/10+1)
	if got, ok := Part([]Item{{"a", 1}, {"b", len(s) - 1}}, s); !ok || got[0].Data != "0" || got[1].Data != s[1:] {
		t.Error("of more than MaxTotal bytes")
	}
}

// P27.2: more bytes than the text has, or fewer.
func TestPartOthers(t *testing.T) {
	for _, l := range [][]Item{itemsOfSizes(), itemsOfSizes(0), itemsOfSizes(4), itemsOfSizes(1, 3), itemsOfSizes(3, 0, 1, 0)} {
		n := Total(l)
		s := "0123456789"
		for m := range len(s) + 1 {
			if parts, ok := Part(l, s[:m]); ok != (m == n) || m != n && len(parts) != 0 {
				t.Errorf("Part(%v, %.60q): %q, %v", l, s[:m], parts, ok)
			}
		}
	}
	wantNoParts(t, itemsOfSizes(1<<31), "x")
	wantNoParts(t, itemsOfSizes(1<<30, 1<<30), strings.Repeat("x", 100))
}

// P1, P27.2: a Size below 0, though the sum be that of the text.
func TestPartBelow(t *testing.T) {
	for _, sizes := range [][]int{{-1}, {-3}, {math.MinInt}, {-1, 4}, {4, -1}, {3, -1, 1}, {2, -1, 2}, {-3, 6}, {3, 0, -1}, {0, -2, 5}, {math.MinInt, math.MaxInt}, {math.MaxInt, math.MinInt}, {1, math.MaxInt, math.MinInt}} {
		for _, s := range []string{"", "x", "xyz", "xyz."} {
			wantNoParts(t, itemsOfSizes(sizes...), s)
		}
	}
}

// P27.2: so entries come back, as many as may be, with names and Data of all kinds.
func TestBack(t *testing.T) {
	r := rand.New(rand.NewSource(3))
	for n := range 60 {
		wantBack(t, anyEntries(r, n, 200))
	}
	wantBack(t, anyEntries(r, api.MaxEntries, api.MaxName+1))
}

// Rules: types have these fields alone.
func TestFields(t *testing.T) {
	if e := (Entry{"a", "b"}); e != (Entry{Name: "a", Data: "b"}) || e == (Entry{"b", "a"}) || e == (Entry{"a", ""}) {
		t.Error(e)
	}
	if i := (Item{"a", 1}); i != (Item{Name: "a", Size: 1}) || i == (Item{"a", 2}) || i == (Item{"", 1}) {
		t.Error(i)
	}
}

// Rules: what is handed in isn't changed, the room behind it included, and not kept; an answer is new memory.
func TestMemory(t *testing.T) {
	room := []Entry{{"a", "xyz"}, {"b", "w"}, {"behind", "it"}}
	l := room[:2]
	b, _ := Encode(l)
	Text(l)
	items, _ := Decode(b)
	items = append(items, Item{"behind", 2})[:2]
	Total(items)
	parts, _ := Part(items, "xyzw")
	if !slices.Equal(room, []Entry{{"a", "xyz"}, {"b", "w"}, {"behind", "it"}}) || !slices.Equal(items[:3], []Item{{"a", 3}, {"b", 1}, {"behind", 2}}) {
		t.Error(room, items[:3])
	}
	items[0], l[1] = Item{"other", 5}, Entry{"other", "other"}
	if again, _ := Decode(b); !slices.Equal(again, []Item{{"a", 3}, {"b", 1}}) {
		t.Error(again)
	}
	if !slices.Equal(parts, []Entry{{"a", "xyz"}, {"b", "w"}}) {
		t.Error(parts)
	}
}

// Rules: many beside one another tell what one alone tells.
func TestBeside(t *testing.T) {
	l := anyEntries(rand.New(rand.NewSource(4)), 50, 100)
	want, _ := plainEncode(l)
	items := plainItems(t, want)
	var all sync.WaitGroup
	for range 20 {
		all.Go(func() {
			wantEncode(t, l, want)
			wantItems(t, want, items)
			if n := Total(items); n != len(Text(l)) {
				t.Error(n)
			}
			if parts, ok := Part(items, Text(l)); !ok || !slices.Equal(parts, l) {
				t.Error("others")
			}
		})
	}
	all.Wait()
}
