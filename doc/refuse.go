package doc

import (
	"burin/api"
	"burin/bitmap"
)

// page is a page's map; none, if there is no such page.
func (d *Doc) page(number int) *bitmap.Map {
	if number < 0 || number >= len(d.pages) {
		return nil
	}
	return d.pages[number]
}

// isSize asks by a quotient: a product might wrap.
func isSize(w, h int) bool {
	return w >= 1 && h >= 1 && w <= api.MaxArea/h
}

func isInside(m *bitmap.Map, x, y int) bool {
	w, h := m.Size()
	return 0 <= x && x < w && 0 <= y && y < h
}

func isBit(bit int) bool {
	return bit == 0 || bit == 1
}

func isOperation(op int) bool {
	return api.OpOr <= op && op <= api.OpReplace
}
