package freq

import "cassone/rc"

// allSigns is how many bytes there are.
const allSigns = 256

// Set of signs.
type Set struct {
	in [allSigns]bool
	n  int
}

// Add a sign to a set.
func (s *Set) Add(sign byte) {
	if s == nil || s.in[sign] {
		return
	}
	s.in[sign] = true
	s.n++
}

// Has a sign.
func (s *Set) Has(sign byte) bool { return s != nil && s.in[sign] }

// Len: how many signs there are.
func (s *Set) Len() int {
	if s == nil {
		return 0
	}
	return s.n
}

// PutAny: a sign, as likely as each that isn't in a set.
func PutAny(e *rc.Encoder, sign byte, not *Set) {
	start := uint32(0)
	for below := range sign {
		if !not.Has(below) {
			start++
		}
	}
	e.Part(start, 1, not.others())
}

// GetAny: a sign, as likely as each that isn't in a set.
func GetAny(d *rc.Decoder, not *Set) byte {
	where := d.Where(not.others())
	start := uint32(0)
	for i := range allSigns {
		sign := byte(i)
		if not.Has(sign) {
			continue
		}
		if start == where {
			d.Take(start, 1)
			return sign
		}
		start++
	}
	// Only a set of all signs leads here: there is none to tell, and no part to take.
	return 0
}

// others are how many signs aren't in a set.
func (s *Set) others() uint32 { return uint32(allSigns - s.Len()) }
