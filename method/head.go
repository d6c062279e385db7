package method

import (
	"cassone/count"
	"cassone/model"
)

// How many of each a byte that tells Params has room for: all that may be are below.
const (
	headLc = 9
	headLp = 5
)

// cellsSize is how many bytes tell cells, and ppmHead how many an order and cells.
const (
	cellsSize = 3
	ppmHead   = 1 + cellsSize
)

// putParams tells Params in a byte.
func putParams(p model.Params) string {
	return string([]byte{byte((p.Pb*headLp+p.Lp)*headLc + p.Lc)})
}

// getParams from a byte; they may be wrong.
func getParams(b byte) model.Params {
	n := int(b)
	return model.Params{Lc: n % headLc, Lp: n / headLc % headLp, Pb: n / headLc / headLp}
}

// putContexts tells an order and cells.
func putContexts(order, cells int) string {
	return string([]byte{byte(order)}) + count.Put(cells, cellsSize)
}

// getContexts from so many bytes: their order and cells, that may be wrong.
func getContexts(b string) (order, cells int) {
	return int(b[0]), count.Get(b[1:ppmHead])
}
