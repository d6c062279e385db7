package arena

import (
	"math"
	"math/rand"
	"testing"
)

// P17.1: the chapter's example, with what stands where.
func TestExample(t *testing.T) {
	a := New[string](2)
	wantTake(t, a, "x", 1, true)
	wantTake(t, a, "y", 2, true)
	wantTake(t, a, "z", 0, false)
	if *a.At(1) != "x" || *a.At(2) != "y" || a.Left() != 0 {
		t.Error("full")
	}
	if !a.Free(1) || a.At(1) != nil || *a.At(2) != "y" || a.Left() != 1 {
		t.Error("free")
	}
	wantTake(t, a, "z", 1, true)
	if *a.At(1) != "z" || *a.At(2) != "y" || a.Left() != 0 {
		t.Error("taken again")
	}
}

// P17.1: none, where cells is below 1.
func TestNoCells(t *testing.T) {
	for _, cells := range []int{0, -1, -2, math.MinInt} {
		a := New[int](cells)
		if a == nil {
			t.Fatal("no arena")
		}
		for range 3 {
			wantTake(t, a, 5, 0, false)
			if a.Left() != 0 || a.At(0) != nil || a.At(1) != nil || a.Free(0) || a.Free(1) {
				t.Errorf("of %d cells one is there", cells)
			}
			a.Clear()
		}
	}
}

// P17.1: however many cells there are, the first ones are to be had, and each has its number.
func TestManyCells(t *testing.T) {
	for _, cells := range []int{math.MaxInt, math.MaxInt - 1, math.MaxInt32 + 1, 1 << 40} {
		a := New[int](cells)
		for i := 1; i <= 3000; i++ {
			wantTake(t, a, -i, i, true)
		}
		if a.Left() != cells-3000 || *a.At(3000) != -3000 || a.At(3001) != nil || a.At(cells) != nil || a.Free(cells) {
			t.Errorf("of %d cells %d are left", cells, a.Left())
		}
		if !a.Free(1000) || a.Left() != cells-2999 {
			t.Error(a.Left())
		}
		a.Clear()
		if a.Left() != cells {
			t.Error(a.Left())
		}
	}
}

// P17.1: as many as there are, and no more, at all sizes up to some.
func TestAllSizes(t *testing.T) {
	for cells := 1; cells <= 140; cells++ {
		a := New[int](cells)
		for i := 1; i <= cells; i++ {
			if a.Left() != cells-i+1 {
				t.Fatalf("%d of %d are left", a.Left(), cells)
			}
			wantTake(t, a, 7*i, i, true)
		}
		wantTake(t, a, 1, 0, false)
		for i := 1; i <= cells; i++ {
			if *a.At(i) != 7*i {
				t.Fatalf("%d of %d: %d", i, cells, *a.At(i))
			}
		}
		if a.Left() != 0 || a.At(cells+1) != nil || a.Free(cells+1) {
			t.Fatalf("of %d cells one more is there", cells)
		}
	}
}

// P17.1: the one freed last is taken first; behind all freed ones the least that was never taken.
func TestFreedLast(t *testing.T) {
	a := New[int](8)
	for i := 1; i <= 5; i++ {
		wantTake(t, a, i, i, true)
	}
	for _, i := range []int{2, 5, 1} {
		if !a.Free(i) {
			t.Fatal(i)
		}
	}
	wantTake(t, a, 10, 1, true)
	if !a.Free(4) {
		t.Fatal(4)
	}
	for _, i := range []int{4, 5, 2, 6, 7, 8} {
		wantTake(t, a, 10, i, true)
	}
	wantTake(t, a, 10, 0, false)
	for i := 8; i >= 1; i-- {
		a.Free(i)
	}
	for i := 1; i <= 8; i++ {
		wantTake(t, a, 10, i, true)
	}
	a.Free(3)
	a.Free(3)
	wantTake(t, a, 10, 3, true)
	wantTake(t, a, 10, 0, false)
}

// P17.1: what isn't taken isn't freed, and nothing changes by that.
func TestFreeWrong(t *testing.T) {
	a := New[int](3)
	a.Take(1)
	a.Take(2)
	a.Free(1)
	for _, i := range []int{1, 0, -1, 3, 4, 1 << 40, math.MaxInt, math.MinInt} {
		if a.Free(i) || a.At(i) != nil {
			t.Errorf("%d is taken", i)
		}
	}
	if a.Left() != 2 || *a.At(2) != 2 {
		t.Error(a.Left())
	}
	for _, i := range []int{1, 3} {
		wantTake(t, a, 9, i, true)
	}
	wantTake(t, a, 9, 0, false)
}

// P17.1: where a value stands it stays, whatever else is taken and freed; what is written there is its value.
func TestStays(t *testing.T) {
	a := New[[2]int](5000)
	at := map[int]*[2]int{}
	for v := range 5000 {
		i, _ := a.Take([2]int{v, 0})
		at[i] = a.At(i)
		at[i][0], at[i][1] = i, 3*i
		if v%7 == 6 {
			a.Free(i - 1)
			delete(at, i-1)
		}
	}
	for i, p := range at {
		if a.At(i) != p || *p != [2]int{i, 3 * i} {
			t.Fatalf("cell %d: %v", i, *a.At(i))
		}
		p[0] = -i
		if a.At(i)[0] != -i {
			t.Fatal("not written")
		}
	}
	a.Free(1)
	a.Take([2]int{8, 9})
	if *a.At(1) != [2]int{8, 9} || *a.At(2) != [2]int{-2, 6} || len(at) < 4000 {
		t.Error("a value of before")
	}
}

// P17.1: Clear: all are free, and as new: what was freed ahead of it counts no more.
func TestClear(t *testing.T) {
	a := New[int](6)
	for i := range 5 {
		a.Take(i)
	}
	a.Free(2)
	a.Free(4)
	a.Clear()
	if a.Left() != 6 {
		t.Error(a.Left())
	}
	for i := -1; i <= 7; i++ {
		if a.At(i) != nil || a.Free(i) {
			t.Errorf("%d is taken", i)
		}
	}
	for i := 1; i <= 6; i++ {
		wantTake(t, a, 10*i, i, true)
	}
	wantTake(t, a, 1, 0, false)
	if *a.At(3) != 30 {
		t.Error(*a.At(3))
	}
	a.Clear()
	a.Clear()
	wantTake(t, a, 1, 1, true)
}

// P17.1: of nil.
func TestNil(t *testing.T) {
	var a *Arena[string]
	wantTake(t, a, "x", 0, false)
	for _, i := range []int{-1, 0, 1, 2, math.MaxInt, math.MinInt} {
		if a.At(i) != nil || a.Free(i) {
			t.Error(i)
		}
	}
	a.Clear()
	if a.Left() != 0 {
		t.Error(a.Left())
	}
}

// P17.1: values of any type: also of those that take no room, lists, functions and pointers; and the zero value is one as well.
func TestAnyType(t *testing.T) {
	none := New[struct{}](3)
	for i := 1; i <= 3; i++ {
		wantTake(t, none, struct{}{}, i, true)
	}
	wantTake(t, none, struct{}{}, 0, false)
	if !none.Free(2) || none.At(2) != nil || none.At(1) == nil || none.At(3) == nil {
		t.Error("no room")
	}
	lists := New[[]int](2)
	lists.Take([]int{1, 2})
	lists.Take(nil)
	*lists.At(2) = append(*lists.At(2), 7)
	if (*lists.At(1))[1] != 2 || (*lists.At(2))[0] != 7 {
		t.Error("lists")
	}
	calls := New[func() int](1)
	calls.Take(func() int { return 5 })
	if (*calls.At(1))() != 5 {
		t.Error("functions")
	}
	x := 3
	pointers := New[*int](2)
	pointers.Take(&x)
	pointers.Take(nil)
	if *pointers.At(1) != &x || *pointers.At(2) != nil || pointers.At(2) == nil {
		t.Error("pointers")
	}
	deep := New[*Arena[any]](1)
	deep.Take(New[any](1))
	(*deep.At(1)).Take("x")
	if *(*deep.At(1)).At(1) != "x" {
		t.Error("an arena")
	}
}

// P17.1: arenas are apart from each other.
func TestApart(t *testing.T) {
	a, b := New[int](4), New[int](4)
	a.Take(1)
	a.Take(2)
	wantTake(t, b, 3, 1, true)
	a.Free(1)
	if *b.At(1) != 3 || b.Left() != 3 || a.Left() != 3 {
		t.Error("not apart")
	}
	a.Clear()
	if *b.At(1) != 3 {
		t.Error("cleared, too")
	}
}

// P17.1: long runs of all calls, beside the plain form.
func TestAgainstPlain(t *testing.T) {
	r := rand.New(rand.NewSource(17))
	for _, cells := range []int{1, 2, 3, 10, 33, 200} {
		a, plain := New[int](cells), newPlain(cells)
		for step := range 4000 {
			switch what := r.Intn(100); {
			case what < 50+step%30:
				i, ok := a.Take(step)
				if wantI, want := plain.take(step); i != wantI || ok != want {
					t.Fatalf("Take: %d, %v, not %d, %v", i, ok, wantI, want)
				}
			case what < 99:
				i := r.Intn(cells+4) - 1
				if got, want := a.Free(i), plain.free(i); got != want {
					t.Fatalf("Free(%d): %v", i, got)
				}
			case r.Intn(10) == 0:
				a.Clear()
				plain.clear()
			}
			wantSame(t, a, plain)
		}
	}
}
