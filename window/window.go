// Package window is layer 2: see shared/doc/02-window.md.
package window

// Window: what was written so far.
type Window struct {
	text []byte
	most int
}

// New window, of so many bytes at most.
func New(most int) *Window {
	// Room is made as bytes come: most may be far more than will ever be put.
	return &Window{most: max(most, 0)}
}

// Put a byte.
func (w *Window) Put(b byte) bool {
	if w.room() < 1 {
		return false
	}
	w.text = append(w.text, b)
	return true
}

// Copy bytes from so far back.
func (w *Window) Copy(dist, n int) bool {
	if !w.reaches(dist) || n < 0 || n > w.room() {
		return false
	}
	for range n {
		// dist is counted from the end, which moves: so a copy may meet its own bytes.
		w.text = append(w.text, w.text[len(w.text)-dist])
	}
	return true
}

// At: the byte that lies so far back.
func (w *Window) At(dist int) (byte, bool) {
	if !w.reaches(dist) {
		return 0, false
	}
	return w.text[len(w.text)-dist], true
}

// Len: how many bytes there are.
func (w *Window) Len() int {
	if w == nil {
		return 0
	}
	return len(w.text)
}

// Text: all of them.
func (w *Window) Text() string {
	if w == nil {
		return ""
	}
	return string(w.text)
}

// reaches says whether a byte lies so far back; none does in a nil window.
func (w *Window) reaches(dist int) bool {
	return dist >= 1 && dist <= w.Len()
}

// room is how many bytes may still be put. What is asked for is held against it, not added to Len: a sum could wrap round.
func (w *Window) room() int {
	if w == nil {
		return 0
	}
	return w.most - len(w.text)
}
