package arena

import "testing"

// plainArena is the chapter's form: which cells are taken, with which values, and in which order the free ones were freed.
type plainArena struct {
	cells int
	used  int
	freed []int
	value map[int]int
}

func newPlain(cells int) *plainArena {
	return &plainArena{cells: max(cells, 0), value: map[int]int{}}
}

func (a *plainArena) take(v int) (int, bool) {
	if len(a.value) == a.cells {
		return 0, false
	}
	i := a.used + 1
	if n := len(a.freed); n > 0 {
		i, a.freed = a.freed[n-1], a.freed[:n-1]
	} else {
		a.used++
	}
	a.value[i] = v
	return i, true
}

func (a *plainArena) free(i int) bool {
	if _, ok := a.value[i]; !ok {
		return false
	}
	delete(a.value, i)
	a.freed = append(a.freed, i)
	return true
}

func (a *plainArena) clear() { *a = *newPlain(a.cells) }

// wantSame: both have the same cells, with the same values; and some that are none.
func wantSame(t *testing.T, a *Arena[int], plain *plainArena) {
	t.Helper()
	if got, want := a.Left(), plain.cells-len(plain.value); got != want {
		t.Fatalf("%d are left, not %d", got, want)
	}
	for i := -2; i <= plain.used+3; i++ {
		want, ok := plain.value[i]
		got := a.At(i)
		if (got != nil) != ok || ok && *got != want {
			t.Fatalf("cell %d: %v, not %d, %v", i, got, want, ok)
		}
	}
}

// wantTake: Take(v) answers that.
func wantTake[T any](t *testing.T, a *Arena[T], v T, cell int, taken bool) {
	t.Helper()
	if i, ok := a.Take(v); i != cell || ok != taken {
		t.Fatalf("Take: %d, %v, not %d, %v", i, ok, cell, taken)
	}
}
