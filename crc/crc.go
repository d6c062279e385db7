// Package crc is layer 1: see shared/doc/01-crc.md.
package crc

const (
	// ends turns the register at both ends: so zero bytes at the front of a text count, too.
	ends = 0xFFFFFFFF
	// polynomial of IEEE 802.3, its bits counted from the lowest one on.
	polynomial = 0xEDB88320
)

// Sum of a text.
func Sum(s string) uint32 {
	// The sum of the empty text is 0, whatever stands behind it.
	return Add(0, s)
}

// Add a text to a sum: that of what was summed, and it behind.
func Add(sum uint32, s string) uint32 {
	r := sum ^ ends
	for i := range len(s) {
		r = step(r ^ uint32(s[i]))
	}
	return r ^ ends
}

// step moves the register down by the eight bits of a byte.
func step(r uint32) uint32 {
	for range 8 {
		low := r & 1
		r >>= 1
		if low == 1 {
			r ^= polynomial
		}
	}
	return r
}

// Bytes of a sum, the lowest one first.
func Bytes(sum uint32) string {
	var b [4]byte
	for i := range len(b) {
		b[i] = byte(sum >> (8 * i))
	}
	return string(b[:])
}
