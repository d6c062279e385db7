package state

import (
	"math"
	"math/rand"
	"testing"

	"cassone/packet"
)

// P9.1, Next: all states behind all kinds.
func TestNext(t *testing.T) {
	for kind, want := range map[int][12]State{
		packet.Lit:   {0, 0, 0, 0, 1, 2, 3, 4, 5, 6, 4, 5},
		packet.Match: {7, 7, 7, 7, 7, 7, 7, 10, 10, 10, 10, 10},
		packet.Rep:   {8, 8, 8, 8, 8, 8, 8, 11, 11, 11, 11, 11},
		packet.Short: {9, 9, 9, 9, 9, 9, 9, 11, 11, 11, 11, 11},
	} {
		for s, n := range want {
			if got := State(s).Next(kind); got != n {
				t.Errorf("%d behind kind %d: %d, want %d", s, kind, got, n)
			}
		}
	}
}

// P9.1, Next: of what is no kind, the state stays.
func TestNextOfNoKind(t *testing.T) {
	for _, kind := range []int{0, 5, 6, -1, 256, math.MinInt, math.MaxInt} {
		for s := State(0); s < 12; s++ {
			if got := s.Next(kind); got != s {
				t.Errorf("%d behind kind %d: %d", s, kind, got)
			}
		}
	}
}

// P9.1, Literal: below 7; so it is just where a byte was told last.
func TestLiteral(t *testing.T) {
	for s := State(0); s < 12; s++ {
		if s.Literal() != (s < 7) {
			t.Errorf("%d: %v", s, s.Literal())
		}
		if !s.Next(packet.Lit).Literal() {
			t.Errorf("%d: no byte behind a byte", s)
		}
		for _, kind := range []int{packet.Match, packet.Rep, packet.Short} {
			if s.Next(kind).Literal() {
				t.Errorf("%d: a byte behind kind %d", s, kind)
			}
		}
	}
	if !State(-1).Literal() || !State(math.MinInt).Literal() || State(12).Literal() || State(math.MaxInt).Literal() {
		t.Error("others")
	}
}

// P1: of other states nothing is promised but the end.
func TestOthersEnd(t *testing.T) {
	for _, s := range []State{-1, 12, math.MinInt, math.MaxInt} {
		for kind := range 6 {
			s.Next(kind)
		}
	}
}

// P9.1, Slot and Base: worked out by hand.
func TestSlots(t *testing.T) {
	for _, c := range []struct {
		d    uint32
		slot int
		base uint32
		bits int
	}{
		{0, 0, 0, 0}, {1, 1, 1, 0}, {2, 2, 2, 0}, {3, 3, 3, 0},
		{4, 4, 4, 1}, {5, 4, 4, 1}, {6, 5, 6, 1}, {7, 5, 6, 1},
		{8, 6, 8, 2}, {11, 6, 8, 2}, {12, 7, 12, 2}, {15, 7, 12, 2},
		{16, 8, 16, 3}, {23, 8, 16, 3}, {24, 9, 24, 3}, {31, 9, 24, 3},
		{127, 13, 96, 5}, {128, 14, 128, 6}, {191, 14, 128, 6}, {192, 15, 192, 6},
		{1<<20 - 1, 39, 3 << 18, 18}, {1 << 20, 40, 1 << 20, 19},
		{1<<31 - 1, 61, 3 << 29, 29}, {1 << 31, 62, 1 << 31, 30},
		{3<<30 - 1, 62, 1 << 31, 30}, {3 << 30, 63, 3 << 30, 30}, {math.MaxUint32, 63, 3 << 30, 30},
	} {
		if slot := Slot(c.d); slot != c.slot {
			t.Errorf("slot of %d: %d, want %d", c.d, slot, c.slot)
		}
		if base, bits := Base(c.slot); base != c.base || bits != c.bits {
			t.Errorf("base of %d: %d and %d, want %d and %d", c.slot, base, bits, c.base, c.bits)
		}
	}
}

// plainSlot is the slot of a number, as the chapter says it.
func plainSlot(d uint64) int {
	if d < 4 {
		return int(d)
	}
	n, power := 0, uint64(1)
	for 2*power <= d {
		n, power = n+1, 2*power
	}
	if d >= power+power/2 {
		return 2*n + 1
	}
	return 2 * n
}

// P9.1, Slot: beside the plain form, at small numbers, at all powers of two, and at others.
func TestSlotBesidePlain(t *testing.T) {
	var l []uint32
	for d := range uint32(70000) {
		l = append(l, d)
	}
	for n := range 32 {
		for _, near := range []uint32{1 << n, 1<<n + 1<<n/2} {
			l = append(l, near-2, near-1, near, near+1)
		}
	}
	r := rand.New(rand.NewSource(1))
	for range 20000 {
		l = append(l, r.Uint32()>>r.Intn(32))
	}
	for _, d := range l {
		if got, want := Slot(d), plainSlot(uint64(d)); got != want {
			t.Fatalf("slot of %d: %d, want %d", d, got, want)
		}
	}
}

// P9.2: the slots part all numbers among them, each with as many as its bits can tell.
func TestSlotsPartAllNumbers(t *testing.T) {
	next := uint64(0)
	for slot := range 64 {
		base, bits := Base(slot)
		if uint64(base) != next {
			t.Fatalf("slot %d begins at %d, want %d", slot, base, next)
		}
		next = uint64(base) + 1<<bits
		last := uint32(next - 1)
		middle := base + (last-base)/2
		for _, d := range []uint32{base, middle, last} {
			if Slot(d) != slot {
				t.Errorf("slot of %d: %d, want %d", d, Slot(d), slot)
			}
		}
	}
	if next != 1<<32 {
		t.Errorf("the last slot ends at %d", next)
	}
}

// P9.1, Base: nothing, where there is no such slot.
func TestBaseOfNoSlot(t *testing.T) {
	for _, slot := range []int{-1, -4, 64, 65, 128, math.MinInt, math.MaxInt} {
		if base, bits := Base(slot); base != 0 || bits != 0 {
			t.Errorf("base of %d: %d and %d", slot, base, bits)
		}
	}
}

// P9.1, Class: of all lengths, and beyond them.
func TestClass(t *testing.T) {
	for n, want := range map[int]int{
		math.MinInt: 0, math.MinInt + 1: 0, -5: 0, -1: 0, 0: 0, 1: 0,
		2: 0, 3: 1, 4: 2, 5: 3, 6: 3, 7: 3, 273: 3, 300: 3, math.MaxInt: 3,
	} {
		if got := Class(n); got != want {
			t.Errorf("class of %d: %d, want %d", n, got, want)
		}
	}
}
