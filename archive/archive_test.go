package archive

import (
	"encoding/hex"
	"math"
	"math/rand"
	"slices"
	"strings"
	"sync"
	"testing"
	"testing/synctest"

	"cassone/api"
	"cassone/index"
	"cassone/method"
	"cassone/model"
	"cassone/solid"
)

// allCalls of a reading that came to its end.
var allCalls = Calls{Keys: 1, Sums: 1, Ciphers: 1, Blocks: 1}

// wantPack: what the chapter says, and that it comes back.
func wantPack(t *testing.T, l []index.Entry, password string, o Options) string {
	t.Helper()
	want, _ := plainPack(l, password, o)
	b, e := Pack(l, password, o)
	if b != want || e != api.OK {
		t.Fatalf("%d entries, %+v: %.80x, %d, want %.80x", len(l), o, b, e, want)
	}
	wantUnpack(t, b, password, l)
	return b
}

// wantUnpack: the entries, by limits that are great enough, and by those that are just so.
func wantUnpack(t *testing.T, b, password string, want []index.Entry) {
	t.Helper()
	for _, m := range []Limits{{math.MaxInt, math.MaxInt}, {int(b[5]), len(index.Text(want))}} {
		if l, c, e := Unpack(b, password, m); !slices.Equal(l, want) || c != allCalls || e != api.OK {
			t.Errorf("Unpack(%.80x, %+v): %d entries, %+v, %d, want %d", b, m, len(l), c, e, len(want))
		}
	}
}

// wantNoPack: ErrParam, and nothing else.
func wantNoPack(t *testing.T, l []index.Entry, o Options) {
	t.Helper()
	if b, e := Pack(l, "p", o); b != "" || e != api.ErrParam {
		t.Errorf("%d entries, %+v: %.80x, %d", len(l), o, b, e)
	}
}

// P28.1, P28.2: archives that another program made.
func TestKnownBytes(t *testing.T) {
	seq, high := [16]byte{0, 1, 2, 3, 4, 5, 6, 7, 8, 9, 10, 11, 12, 13, 14, 15}, [16]byte{}
	for i := range high {
		high[i] = 0xFF
	}
	for _, c := range []struct {
		l        []index.Entry
		password string
		o        Options
		change   func(o *method.Options)
		known    string
	}{
		{nil, "", Options{Block: 65536}, func(o *method.Options) {},
			"43534e45010000000000000000000000000000000000000000000000000000000000000000007c12e482f8412073228653948c25dd3af1b265bf0f79a6dcd4aae142d673973264f29db91b773a1a"},
		{[]index.Entry{{Name: "a", Data: "xyz"}}, "p", Options{Block: 65536}, func(o *method.Options) {},
			"43534e45010000000000000000000000000000000000000000000000000000000000000000006885f3be6a6c78ed7b4597f318840213f4092c82be8876d4722afb14d628210675f00adf3caaaa4a332d40a4ebba96c4525d5850bb0b05639eb9c6718aa0a2"},
		{[]index.Entry{{Name: "one", Data: "some text, "}, {}, {Name: "one", Data: "and some more"}}, "sécret", Options{Block: 16, Power: 3, Salt: seq, IV: high}, func(o *method.Options) { o.Mask = 0 },
			"43534e450103000102030405060708090a0b0c0d0e0fffffffffffffffffffffffffffffffff6ec10875d77adae9107acab5a26de57d25fe651a271b70d449e11d00c65093902a814baa38cff89dd355925c8462cb81565bbd283d34748a7a2f8dbed29f714f93824c8cc6a53da7c68cfe2005f2059ddf48f90242102b639a4e9f7a83724c9aa249c180c20c850d9bb7aba9bc3e2177764f"},
		{[]index.Entry{{Name: "\xff\x00", Data: "abcabc"}, {Name: "y", Data: strings.Repeat("abc", 6)}}, strings.Repeat("x", 100), Options{Block: 24, Power: 10, Salt: high, IV: seq}, func(o *method.Options) { o.Mask, o.Params = 1, model.Params{} },
			"43534e45010affffffffffffffffffffffffffffffff000102030405060708090a0b0c0d0e0f120ef4323f2c5a0dda0624ae37a9953633cce36032bef0914df1f6a8e0947b51d66b24375fcb7c92285864d8263db27f5faefc3ab4165829329d8bc128d02bb998a137ae336a2a2dd62aa28eecfcdb"},
		{[]index.Entry{{Name: "hens", Data: "the hen in the hat, the hen in the hat; a cat"}}, "p", Options{Block: 45, Power: 1, Salt: seq, IV: [16]byte{8: 255, 255, 255, 255, 255, 255, 255, 255}}, func(o *method.Options) { o.Mask, o.Order, o.Cells = 2, 3, 0x12345 },
			"43534e450101000102030405060708090a0b0c0d0e0f0000000000000000ffffffffffffffff8bc146cdc76ffe2914ab30109cd454134e3151e43a7a01bfc56d81e940285c0debd86d07fa9b1c4d88cd9167a3fd0a539bf6ce57be705d277ec3f534f9def6f2b7ef20feff4ec07b80d4b880283d5201b04bf75a71dfe446a99edf76"},
	} {
		c.o.Method = method.Common()
		c.change(&c.o.Method)
		if b, e := Pack(c.l, c.password, c.o); hex.EncodeToString([]byte(b)) != c.known || e != api.OK {
			t.Errorf("Pack(%q): %x, %d, want %s", c.l, b, e, c.known)
		}
		known, err := hex.DecodeString(c.known)
		if err != nil {
			t.Fatal(err)
		}
		wantUnpack(t, string(known), c.password, c.l)
	}
}

// P28.1: the chapter's example, whatever the options.
func TestNoEntries(t *testing.T) {
	r := rand.New(rand.NewSource(1))
	for range 50 {
		for _, l := range [][]index.Entry{nil, {}} {
			if b := wantPack(t, l, anyText(r, r.Intn(10)), anyOptions(r)); len(b) != 38+8+32 {
				t.Errorf("%d bytes", len(b))
			}
		}
	}
	// Of one entry without a byte: a longer index, and no block.
	if b := wantPack(t, []index.Entry{{}}, "p", common()); len(b) != 38+14+32 {
		t.Errorf("%d bytes", len(b))
	}
}

// P28.1: head, body and seal, each where it stands.
func TestParts(t *testing.T) {
	o := Options{Method: common().Method, Block: 20, Power: 4, Salt: [16]byte([]byte("the salt of this")), IV: [16]byte([]byte("from where it is"))}
	b := wantPack(t, three(), "secret", o)
	if b[:38] != "CSNE\x01\x04the salt of thisfrom where it is" {
		t.Errorf("head %q", b[:38])
	}
	cipher, sum := plainKeys("secret", o.Salt, 4)
	text := "some text, " + strings.Repeat("and more ", 20)
	body := "\x23\x00\x00\x00" + "\x03\x00\x00\x00" + "\x03\x00one\x0b\x00\x00\x00" + "\x00\x00\x00\x00\x00\x00" + "\x03\x00one\xb4\x00\x00\x00"
	body = strings.Replace(body, "\x23", string([]byte{byte(len(body) - 4)}), 1)
	for ; len(text) > 20; text = text[20:] {
		body += storedBlock(text[:20])
	}
	body += storedBlock(text)
	if got := plainTurned(cipher, o.IV, b[38:len(b)-32]); got != body {
		t.Errorf("body %q, want %q", got, body)
	}
	if b[len(b)-32:] != plainKeyed(sum, b[:len(b)-32]) {
		t.Errorf("seal %x", b[len(b)-32:])
	}
}

// P28.1, P28.3: entries, passwords and options of all kinds, beside the plain form; at most as many bytes as promised.
func TestPackAgainstPlain(t *testing.T) {
	r := rand.New(rand.NewSource(2))
	for range 400 {
		l, o := anyEntries(r, r.Intn(12)>>r.Intn(3), 300), anyOptions(r)
		b := wantPack(t, l, anyText(r, r.Intn(100)), o)
		items, _ := index.Encode(l)
		text := len(index.Text(l))
		if blocks := (text + o.Block - 1) / o.Block; len(b) > text+13*blocks+len(items)+74 {
			t.Errorf("%d bytes, of %d in %d blocks", len(b), text, blocks)
		}
	}
}

// P28.1: texts that no method makes smaller have just as many bytes as promised.
func TestMostBytes(t *testing.T) {
	r := rand.New(rand.NewSource(3))
	for n := range 100 {
		data := make([]byte, n)
		r.Read(data)
		o := Options{Method: method.Common(), Block: 16}
		if b := wantPack(t, []index.Entry{{Name: "name", Data: string(data)}}, "p", o); len(b) != n+13*((n+15)/16)+14+74 {
			t.Errorf("%d bytes of %d", len(b), n)
		}
	}
}

// P28.3: by each level, each mask and several Params, each block by a method that the options have.
func TestEachMethod(t *testing.T) {
	l := []index.Entry{{Name: "a", Data: strings.Repeat("abcdefg", 40)}, {Name: "b", Data: strings.Repeat("aabbabaaba", 30)}}
	for mask := range 4 {
		for level := range 3 {
			for _, p := range []model.Params{{}, {Lc: 3, Pb: 2}, {Lp: 4}, {Lc: 2, Lp: 2, Pb: 4}} {
				o := common()
				o.Block, o.Method.Mask, o.Method.Level, o.Method.Params = 100, mask, level, p
				b := wantPack(t, l, "p", o)
				if stored := 580 + 13*6 + 18 + 74; (len(b) < stored) != (mask > 0) {
					t.Errorf("mask %d, level %d: %d bytes", mask, level, len(b))
				}
			}
		}
	}
}

// P28.1: powers from 0 to MaxRounds, to the edges.
func TestPower(t *testing.T) {
	o := common()
	for _, power := range []int{math.MinInt, math.MinInt32, -256, -255, -20, -1, 21, 22, 63, 64, 255, 256, 257, 276, 1 << 32, math.MaxInt} {
		o.Power = power
		for _, l := range [][]index.Entry{nil, three(), make([]index.Entry, api.MaxEntries+1)} {
			wantNoPack(t, l, o)
		}
	}
	var all sync.WaitGroup
	for _, power := range []int{0, 1, 2, 5, 8, 19, 20} {
		all.Go(func() {
			o := common()
			o.Power = power
			b, e := Pack(three(), "p", o)
			if want, _ := plainPack(three(), "p", o); b != want || e != api.OK || int(b[5]) != power {
				t.Errorf("%d: %.80x, %d", power, b, e)
			}
			if l, c, e := Unpack(b, "p", Limits{power, 1000}); !slices.Equal(l, three()) || c != allCalls || e != api.OK {
				t.Errorf("%d: %d entries, %+v, %d", power, len(l), c, e)
			}
		})
	}
	all.Wait()
}

// P28.1: entries that may not be.
func TestEntries(t *testing.T) {
	wantNoPack(t, make([]index.Entry, api.MaxEntries+1), common())
	wantPack(t, make([]index.Entry, api.MaxEntries), "p", common())
	long := strings.Repeat("n", api.MaxName+1)
	wantNoPack(t, []index.Entry{{Name: long}}, common())
	wantPack(t, []index.Entry{{Name: long[1:]}}, "p", common())
}

// P28.1, P28.3: as many bytes in all as MaxTotal, and one more.
func TestMaxTotal(t *testing.T) {
	r := rand.New(rand.NewSource(4))
	part := make([]byte, 1<<16)
	r.Read(part)
	s := strings.Repeat(string(part), api.MaxTotal>>16)
	o := common()
	o.Block = api.MaxBlock
	wantNoPack(t, []index.Entry{{Name: "a", Data: s}, {Name: "b", Data: "x"}}, o)
	l := []index.Entry{{Name: "a", Data: s[5:]}, {Name: "b", Data: "12345"}}
	b := wantPack(t, l, "p", o)
	if len(b) != api.MaxTotal+13*16+18+74 {
		t.Errorf("%d bytes", len(b))
	}
	if l, c, e := Unpack(b, "p", Limits{0, api.MaxTotal - 1}); len(l) != 0 || c != (Calls{Keys: 1, Sums: 1, Ciphers: 1}) || e != api.ErrLimit {
		t.Errorf("%d entries, %+v, %d", len(l), c, e)
	}
}

// P28.1: options that may not be, and blocks of sizes that may not, of entries of all kinds.
func TestOptions(t *testing.T) {
	for _, change := range []func(o *Options){
		func(o *Options) { *o = Options{} },
		func(o *Options) { o.Method = method.Options{} },
		func(o *Options) { o.Method.Mask = -1 },
		func(o *Options) { o.Method.Mask = 4 },
		func(o *Options) { o.Method.Level = 3 },
		func(o *Options) { o.Method.Window = 0 },
		func(o *Options) { o.Method.Window = api.MaxDist + 1 },
		func(o *Options) { o.Method.Cut = 1001 },
		func(o *Options) { o.Method.Order = api.MaxOrder + 1 },
		func(o *Options) { o.Method.Cells = api.MinArena - 1 },
		func(o *Options) { o.Method.Params.Lc = 5 },
		func(o *Options) { o.Block = math.MinInt },
		func(o *Options) { o.Block = 0 },
		func(o *Options) { o.Block = api.MinBlock - 1 },
		func(o *Options) { o.Block = api.MaxBlock + 1 },
		func(o *Options) { o.Block = math.MaxInt },
	} {
		o := common()
		change(&o)
		for _, l := range [][]index.Entry{nil, {{}}, three()} {
			wantNoPack(t, l, o)
		}
		// Of no Power that may be either.
		o.Power = -1
		wantNoPack(t, three(), o)
	}
	for _, size := range []int{api.MinBlock, api.MinBlock + 1, api.MaxBlock - 1, api.MaxBlock} {
		o := common()
		o.Block = size
		wantPack(t, three(), "p", o)
	}
}

// P28.1: an archive hangs on each of password, Salt, IV and Power.
func TestOthers(t *testing.T) {
	seen := map[string]bool{}
	add := func(password string, change func(o *Options)) {
		o := common()
		change(&o)
		b := wantPack(t, three(), password, o)
		seen[b[38:len(b)-32]] = true
		seen[b[len(b)-32:]] = true
	}
	for _, password := range []string{"", "p", "P", "pp", "p\x00", "\x00"} {
		add(password, func(o *Options) {})
	}
	for i := range 16 {
		add("p", func(o *Options) { o.Salt[i] ^= 0x80 })
		add("p", func(o *Options) { o.IV[i] ^= 0x80 })
	}
	for power := range 5 {
		add("p", func(o *Options) { o.Power = power + 1 })
	}
	if len(seen) != 2*(6+32+5) {
		t.Errorf("%d of them", len(seen))
	}
}

// Rules: types have these fields alone.
func TestFields(t *testing.T) {
	if m := (Limits{1, 2}); m != (Limits{Power: 1, Bytes: 2}) || m == (Limits{2, 1}) {
		t.Error(m)
	}
	if c := (Calls{1, 2, 3, 4}); c != (Calls{Keys: 1, Sums: 2, Ciphers: 3, Blocks: 4}) || c == (Calls{}) {
		t.Error(c)
	}
	if o := (Options{method.Common(), 1, 2, [16]byte{3}, [16]byte{4}}); o != (Options{Method: method.Common(), Block: 1, Power: 2, Salt: [16]byte{3}, IV: [16]byte{4}}) {
		t.Error(o)
	}
}

// Rules: what is handed in isn't changed, the room behind it included, and not kept; an answer is new memory.
func TestMemory(t *testing.T) {
	room := append(three(), index.Entry{Name: "behind", Data: "it"})
	l, o := room[:3], common()
	b := wantPack(t, l, "p", o)
	if !slices.Equal(room[:3], three()) || room[3] != (index.Entry{Name: "behind", Data: "it"}) || o != common() {
		t.Error(room, o)
	}
	got, _, _ := Unpack(b, "p", Limits{0, 1000})
	got[0] = index.Entry{Name: "other", Data: "other"}
	wantUnpack(t, b, "p", three())
}

// Rules: no worker stays behind.
func TestPackEnds(t *testing.T) {
	o := common()
	o.Method = method.Common()
	synctest.Test(t, func(t *testing.T) { wantPack(t, three(), "p", o) })
}

// Rules: many beside one another tell what one alone tells.
func TestBeside(t *testing.T) {
	o := common()
	o.Method = method.Common()
	want, _ := plainPack(three(), "p", o)
	var all sync.WaitGroup
	for range 20 {
		all.Go(func() {
			if b, e := Pack(three(), "p", o); b != want || e != api.OK {
				t.Errorf("%.80x, %d", b, e)
			}
			wantUnpack(t, want, "p", three())
			if l, c, e := Unpack(want, "q", Limits{0, 1000}); len(l) != 0 || c != (Calls{Keys: 1, Sums: 1}) || e != api.ErrAuth {
				t.Errorf("%d entries, %+v, %d", len(l), c, e)
			}
		})
	}
	all.Wait()
}

// P28.3: Unpack is told none of the options: blocks of any sizes, each by other ones, are read.
func TestAnyBlocks(t *testing.T) {
	r := rand.New(rand.NewSource(5))
	for range 100 {
		l := anyEntries(r, 1+r.Intn(5), 300)
		items, _ := index.Encode(l)
		b := bodyWith(items, "")
		for s := index.Text(l); s != ""; {
			n := min(len(s), 1+r.Intn(100))
			o := anyOptions(r)
			blocks, e := solid.Pack(s[:n], o.Method, o.Block)
			if e != api.OK {
				t.Fatal(e)
			}
			b, s = b+blocks, s[n:]
		}
		wantUnpack(t, sealed(b, "p"), "p", l)
	}
}
