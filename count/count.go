// Package count has how methods, blocks, indexes and archives tell how many there are of a thing, and keys which round it is: in so many bytes, the lowest first.
package count

// Put a count in so many bytes.
func Put(n, size int) string {
	b := make([]byte, size)
	for i := range b {
		b[i] = byte(n >> (8 * i))
	}
	return string(b)
}

// Get the count that bytes tell.
func Get(b string) int {
	n := 0
	for i := range len(b) {
		n |= int(b[i]) << (8 * i)
	}
	return n
}
