package index

import "cassone/count"

// reader of bytes, from the front on.
type reader struct {
	left  string
	lacks bool // were more asked for than there are?
}

// text of so many bytes; the empty one, where they lack: then none are left either.
func (r *reader) text(n int) string {
	if n > len(r.left) {
		*r = reader{lacks: true}
		return ""
	}
	s := r.left[:n]
	r.left = r.left[n:]
	return s
}

// number in so many bytes; 0, where they lack.
func (r *reader) number(size int) int { return count.Get(r.text(size)) }

// done: were all bytes read, and no more?
func (r *reader) done() bool { return r.left == "" && !r.lacks }
