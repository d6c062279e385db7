package index

import (
	"cassone/api"
	"cassone/count"
)

// itemsOf entries, in order.
func itemsOf(l []Entry) []Item {
	items := make([]Item, len(l))
	for i, e := range l {
		items[i] = Item{Name: e.Name, Size: len(e.Data)}
	}
	return items
}

// good: may entries of these items be, as far as their names and bytes go?
func good(l []Item) bool {
	total := 0
	for _, i := range l {
		total += i.Size
		if len(i.Name) > api.MaxName || total > api.MaxTotal {
			return false
		}
	}
	return true
}

func putItem(i Item) string {
	return count.Put(len(i.Name), nameSize) + i.Name + count.Put(i.Size, dataSize)
}

func getItem(r *reader) Item {
	name := r.text(r.number(nameSize))
	return Item{Name: name, Size: r.number(dataSize)}
}
