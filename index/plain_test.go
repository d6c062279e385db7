package index

import (
	"encoding/binary"
	"math/rand"
	"strings"

	"cassone/api"
)

// made of an item's parts, that may be wrong.
func madeItem(nameSize uint16, name string, size uint32) string {
	b := binary.LittleEndian.AppendUint16(nil, nameSize)
	b = append(b, name...)
	return string(binary.LittleEndian.AppendUint32(b, size))
}

// made of how many there are, and of items.
func made(n uint32, items ...string) string {
	return string(binary.LittleEndian.AppendUint32(nil, n)) + strings.Join(items, "")
}

// mayBe is the chapter's, word by word.
func mayBe(names []string, sizes []int64) bool {
	total := int64(0)
	for _, n := range sizes {
		total += n
	}
	for _, s := range names {
		if len(s) > 1024 {
			return false
		}
	}
	return len(names) <= 1024 && total <= 16777216
}

// plainEncode is the chapter, word by word.
func plainEncode(l []Entry) (string, api.Errno) {
	var names, items []string
	var sizes []int64
	for _, e := range l {
		names = append(names, e.Name)
		sizes = append(sizes, int64(len(e.Data)))
		items = append(items, madeItem(uint16(len(e.Name)), e.Name, uint32(len(e.Data))))
	}
	if !mayBe(names, sizes) {
		return "", api.ErrParam
	}
	return made(uint32(len(l)), items...), api.OK
}

// plainDecode is the chapter, word by word: b is an index just if one of its items is the same bytes.
func plainDecode(b string) ([]Item, api.Errno) {
	if len(b) < 4 {
		return nil, api.ErrForm
	}
	n := binary.LittleEndian.Uint32([]byte(b))
	at := int64(4)
	var names, again []string
	var sizes []int64
	var l []Item
	for i := uint32(0); i < n; i++ {
		if at+2 > int64(len(b)) {
			return nil, api.ErrForm
		}
		end := at + 2 + int64(binary.LittleEndian.Uint16([]byte(b[at:])))
		if end+4 > int64(len(b)) {
			return nil, api.ErrForm
		}
		size := binary.LittleEndian.Uint32([]byte(b[end:]))
		names, sizes = append(names, b[at+2:end]), append(sizes, int64(size))
		again = append(again, madeItem(uint16(end-at-2), b[at+2:end], size))
		l = append(l, Item{b[at+2 : end], int(size)})
		at = end + 4
	}
	if !mayBe(names, sizes) || made(n, again...) != b {
		return nil, api.ErrForm
	}
	return l, api.OK
}

// anyText of so many bytes, whatever they are.
func anyText(r *rand.Rand, n int) string {
	b := make([]byte, n)
	r.Read(b)
	return string(b)
}

// anyEntries: so many, with names and Data of less than so many bytes.
func anyEntries(r *rand.Rand, n, most int) []Entry {
	var l []Entry
	for range n {
		l = append(l, Entry{anyText(r, r.Intn(most)>>r.Intn(6)), anyText(r, r.Intn(most)>>r.Intn(6))})
	}
	return l
}
