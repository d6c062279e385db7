package model

import (
	"cassone/probs"
	"cassone/rc"
	"cassone/state"
)

const (
	states     = 12
	mostPlaces = 1 << mostPlaceBits // as many as P can be
	classes    = 4
	slotBits   = 6
	// From farSlot on bits of a distance are direct, but for the lowest lastBits of them.
	farSlot  = 14
	lastBits = 4
	// A byte's tree is cut from one of likeBits. It has bytePlaces for a byte beside another one; the first plainPlaces of them are a tree of eight bits.
	likeBits    = 10
	bytePlaces  = 768
	plainPlaces = 256
	// From these on lengths, less MinLen, are told by other trees.
	middleLength = 8
	farLength    = 16
)

// likely is how likely each bit of a packet is.
type likely struct {
	// Each by the state, two of them by P, too. What a bit 1 tells:
	other  [states][mostPlaces]uint16 // another kind than a byte
	again  [states]uint16             // no match: one of the last distances
	second [states]uint16             // not the first of them
	third  [states]uint16             // nor the second
	fourth [states]uint16             // nor the third
	more   [states][mostPlaces]uint16 // of the first: more than one byte

	bytes     []probs.Tree // by the place and the byte ahead
	matches   lengths
	reps      lengths
	distances distances
}

func newLikely(p Params) *likely {
	l := &likely{matches: newLengths(), reps: newLengths(), distances: newDistances()}
	for s := range states {
		start(l.other[s][:])
		start(l.more[s][:])
	}
	start(l.again[:])
	start(l.second[:])
	start(l.third[:])
	start(l.fourth[:])
	for range 1 << (p.Lc + p.Lp) {
		l.bytes = append(l.bytes, probs.New(likeBits)[:bytePlaces])
	}
	return l
}

// start probabilities, all of them as likely as not.
func start(l []uint16) {
	for i := range l {
		l[i] = rc.Start
	}
}

// lengths is how likely each bit of a length is.
type lengths struct {
	// What a bit 1 tells:
	notNear uint16 // not below middleLength
	far     uint16 // nor below farLength

	near    [mostPlaces]probs.Tree
	middle  [mostPlaces]probs.Tree
	farther probs.Tree
}

func newLengths() lengths {
	l := lengths{notNear: rc.Start, far: rc.Start, farther: probs.New(8)}
	for i := range mostPlaces {
		l.near[i], l.middle[i] = probs.New(3), probs.New(3)
	}
	return l
}

// distances is how likely each bit of a match's distance is.
type distances struct {
	slots [classes]probs.Tree
	near  [farSlot]probs.Tree
	last  probs.Tree
}

func newDistances() distances {
	d := distances{last: probs.New(lastBits)}
	for i := range classes {
		d.slots[i] = probs.New(slotBits)
	}
	for i := range farSlot {
		_, n := state.Base(i)
		d.near[i] = probs.New(n)
	}
	return d
}
