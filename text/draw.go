package text

import (
	"burin/api"
	"burin/bitmap"
)

// draw draws a region that may be; so none of the calls below it is refused.
func draw(t api.Text, symbols []api.Bitmap) api.Bitmap {
	m, _ := bitmap.New(t.W, t.H)
	m.Fill(0, 0, t.W, t.H, t.Default)
	look := looks(symbols)
	for _, i := range inOrder(t) {
		b := look(i)
		w, h := b.Size()
		m.Blit(b, 0, 0, w, h, i.X, i.Y, t.Op)
	}
	return m.Plain()
}

// looks tells what an instance looks like. A symbol becomes a map once, however many instances it has: it may be far greater than what of it is seen.
func looks(symbols []api.Bitmap) func(api.Instance) *bitmap.Map {
	known := make([]*bitmap.Map, len(symbols))
	return func(i api.Instance) *bitmap.Map {
		if i.Differ {
			own, _ := bitmap.From(i.B)
			return own
		}
		if known[i.Symbol] == nil {
			known[i.Symbol], _ = bitmap.From(symbols[i.Symbol])
		}
		return known[i.Symbol]
	}
}
