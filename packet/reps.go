package packet

// Reps: the distances that were used last.
type Reps [4]int

// First distances.
func First() Reps { return Reps{1, 1, 1, 1} }

// Push a distance ahead of the others.
func (r Reps) Push(dist int) Reps {
	next := Reps{dist}
	copy(next[1:], r[:])
	return next
}

// Front: one of them is moved ahead of the others.
func (r Reps) Front(i int) Reps {
	if !isPlace(i) {
		return r
	}
	next := r
	next[0] = r[i]
	copy(next[1:], r[:i])
	return next
}

// Find a distance.
func (r Reps) Find(dist int) (int, bool) {
	for i, d := range r {
		if d == dist {
			return i, true
		}
	}
	return 0, false
}

// isPlace says whether one of the last distances stands at i.
func isPlace(i int) bool { return i >= 0 && i < len(Reps{}) }

// retell a copy of n bytes from dist back by the last distances, where they have it, and what they are behind it.
func (r Reps) retell(dist, n int) (Packet, Reps) {
	if i, ok := r.Find(dist); ok {
		return Packet{Kind: Rep, Dist: i, Len: n}, r.Front(i)
	}
	return Packet{Kind: Match, Dist: dist, Len: n}, r.Push(dist)
}
