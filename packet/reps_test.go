package packet

import (
	"math"
	"testing"
)

// P6.1, First.
func TestFirst(t *testing.T) {
	if First() != (Reps{1, 1, 1, 1}) {
		t.Error(First())
	}
}

// P6.1, Push: it stands first, the last one is gone; r stays as it is.
func TestPush(t *testing.T) {
	r := Reps{5, 6, 7, 8}
	for _, dist := range []int{9, 5, 8, 0, -1, math.MinInt, math.MaxInt} {
		if got := r.Push(dist); got != (Reps{dist, 5, 6, 7}) {
			t.Errorf("Push(%d): %v", dist, got)
		}
	}
	if r != (Reps{5, 6, 7, 8}) {
		t.Errorf("changed: %v", r)
	}
	if got := First().Push(2).Push(3).Push(4).Push(5).Push(6); got != (Reps{6, 5, 4, 3}) {
		t.Error(got)
	}
}

// P6.1, Front: the others stay in their order; r, where there is no such place.
func TestFront(t *testing.T) {
	r := Reps{5, 6, 7, 8}
	for _, c := range []struct {
		i    int
		want Reps
	}{
		{0, Reps{5, 6, 7, 8}},
		{1, Reps{6, 5, 7, 8}},
		{2, Reps{7, 5, 6, 8}},
		{3, Reps{8, 5, 6, 7}},
		{4, r}, {5, r}, {-1, r}, {math.MinInt, r}, {math.MaxInt, r},
	} {
		if got := r.Front(c.i); got != c.want {
			t.Errorf("Front(%d): %v, want %v", c.i, got, c.want)
		}
	}
	if r != (Reps{5, 6, 7, 8}) {
		t.Errorf("changed: %v", r)
	}
}

// P6.1, Find: the first place of several; 0 and false.
func TestFind(t *testing.T) {
	for _, c := range []struct {
		r    Reps
		dist int
		i    int
		ok   bool
	}{
		{Reps{5, 6, 7, 8}, 5, 0, true},
		{Reps{5, 6, 7, 8}, 6, 1, true},
		{Reps{5, 6, 7, 8}, 7, 2, true},
		{Reps{5, 6, 7, 8}, 8, 3, true},
		{Reps{5, 6, 7, 8}, 9, 0, false},
		{Reps{5, 6, 7, 8}, 0, 0, false},
		{Reps{5, 6, 6, 6}, 6, 1, true},
		{Reps{5, 7, 6, 6}, 6, 2, true},
		{Reps{1, 1, 1, 1}, 1, 0, true},
		{Reps{1, 1, 1, 1}, math.MaxInt, 0, false},
		{Reps{1, 1, 0, -4}, -4, 3, true},
		{Reps{}, 0, 0, true},
	} {
		if i, ok := c.r.Find(c.dist); i != c.i || ok != c.ok {
			t.Errorf("%v.Find(%d): %d, %v", c.r, c.dist, i, ok)
		}
	}
}
