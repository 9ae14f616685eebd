package plan

import (
	"burin/api"
	"burin/bitmap"
	"burin/bits"
	"burin/page"
)

const (
	stripesMost = 16 // of a page
	lastRowMost = 3  // bytes: a number below MaxArea takes no more as a Var
)

// addRasters adds the segments of a document in a generic mode.
func addRasters(add adder, pages []api.Bitmap, o api.Options) {
	for i, b := range pages {
		number := i + 1
		stripe := stripeOf(b.H, o.Stripe)
		add(beginPage(number, b, stripe))
		if stripe == 0 {
			add(region(number, 0, b, o))
		} else {
			addStripes(add, number, b, stripe, o)
		}
		add(endPage(number))
	}
}

func addStripes(add adder, number int, b api.Bitmap, stripe int, o api.Options) {
	m, _ := bitmap.From(b)
	for y := 0; y < b.H; y += stripe {
		rows := min(stripe, b.H-y)
		part, _ := m.Crop(0, y, b.W, rows)
		add(region(number, y, part.Plain(), o))
		add(endStripe(number, y+rows-1))
	}
}

// stripeOf tells how many rows a page's stripes have: the least multiple with which there are not too many of them.
func stripeOf(height, multiple int) int {
	if multiple == 0 {
		return 0
	}
	least := dividedUp(height, stripesMost)
	return dividedUp(least, multiple) * multiple
}

func dividedUp(n, by int) int {
	return (n + by - 1) / by
}

func region(number, y int, b api.Bitmap, o api.Options) api.Segment {
	data, _ := page.EncodeRegion(api.Region{Y: y, Op: api.OpReplace, Template: o.Template, Skip: o.Mode == api.ModeSkip, B: b})
	return api.Segment{Kind: api.SegGeneric, Page: number, Data: data}
}

func endStripe(number, lastRow int) api.Segment {
	w, _ := bits.NewWriter(lastRowMost)
	w.Var(uint64(lastRow))
	return api.Segment{Kind: api.SegStripe, Page: number, Data: w.Bytes()}
}
