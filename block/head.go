package block

import (
	"cassone/api"
	"cassone/count"
	"cassone/method"
)

// Where in a head each of its parts begins.
const (
	countSize = 4
	textAt    = 1
	dataAt    = textAt + countSize
	sumAt     = dataAt + countSize
	headSize  = sumAt + 4
)

// head of a block: what stands ahead of its data.
type head struct {
	method     uint8
	text, data int // how many bytes
	sum        string
}

func (h head) put() string {
	return string([]byte{h.method}) + count.Put(h.text, countSize) + count.Put(h.data, countSize) + h.sum
}

// getHead from as many bytes as it has.
func getHead(b string) head {
	return head{
		method: b[0],
		text:   count.Get(b[textAt:dataAt]),
		data:   count.Get(b[dataAt:sumAt]),
		sum:    b[sumAt:],
	}
}

// good: may a block have that method, and a text of so many bytes?
func (h head) good() bool {
	return h.method <= method.Ppm && h.text <= api.MaxBlock
}
