package archive

import (
	"cassone/api"
	"cassone/count"
	"cassone/index"
	"cassone/solid"
)

// indexSize: how many bytes tell how many an index has.
const indexSize = 4

// bodyOf entries, not enciphered yet.
func bodyOf(l []index.Entry, o Options) (string, api.Errno) {
	items, e := index.Encode(l)
	if e != api.OK {
		return "", e
	}
	blocks, e := solid.Pack(index.Text(l), o.Method, o.Block)
	if e != api.OK {
		return "", e
	}
	return count.Put(len(items), indexSize) + items + blocks, api.OK
}

// getBody from bytes that are deciphered: the items of its index, and its blocks.
func getBody(b string) (l []index.Item, blocks string, e api.Errno) {
	if len(b) < indexSize {
		return nil, "", api.ErrForm
	}
	n, b := count.Get(b[:indexSize]), b[indexSize:]
	if n > len(b) {
		return nil, "", api.ErrForm
	}
	l, e = index.Decode(b[:n])
	if e != api.OK {
		return nil, "", e
	}
	return l, b[n:], api.OK
}
