package file

import (
	"burin/api"
	"burin/bits"
	"burin/dict"
	"burin/page"
	"burin/text"
)

// contents is what the data of the segments that have come make.
type contents struct {
	held  shelf[[]*api.Bitmap] // what each dictionary hands on
	open  *page.Page
	pages []api.Bitmap // those that are closed
}

func newContents() *contents {
	return &contents{held: shelf[[]*api.Bitmap]{}}
}

// take reads the data of a segment that may come there. At the first fault it ends by panic, with the number of the error.
func (c *contents) take(s api.Segment) {
	var own []*api.Bitmap
	switch s.Kind {
	case api.SegPage:
		c.begin(s.Data)
	case api.SegDict:
		own = c.dictionary(s)
	case api.SegText:
		c.text(s)
	case api.SegGeneric:
		c.region(s.Data)
	case api.SegStripe:
		demandOK(c.open.Stripe(lastRow(s.Data)))
	case api.SegEndPage:
		c.end()
	}
	c.held.pass(s, own)
}

func (c *contents) begin(data []byte) {
	s, err := page.DecodeSheet(data)
	demandOK(err)
	c.open, err = page.New(s)
	demandOK(err)
}

func (c *contents) end() {
	b, err := c.open.End()
	demandOK(err)
	c.pages = append(c.pages, b)
}

func (c *contents) region(data []byte) {
	r, err := page.DecodeRegion(data)
	demandOK(err)
	demandOK(c.open.Add(r.X, r.Y, r.Op, r.B))
}

func (c *contents) text(s api.Segment) {
	symbols := c.symbols(s.Refs)
	t, err := text.Decode(s.Data, plain(symbols))
	demandOK(err)
	b, err := text.Draw(once(t, symbols))
	demandOK(err)
	demandOK(c.open.Add(t.X, t.Y, t.Op, b))
}

// dictionary tells what a dictionary hands on. Symbols are handed on without being copied: a file of few bytes may let one symbol come to many dictionaries, and more than once to each.
func (c *contents) dictionary(s api.Segment) []*api.Bitmap {
	symbols := c.symbols(s.Refs)
	d, err := dict.Decode(s.Data, plain(symbols))
	demandOK(err)
	for _, b := range d.New {
		symbols = append(symbols, &b)
	}
	var own []*api.Bitmap
	for i, b := range symbols {
		if d.Export[i] {
			own = append(own, b)
		}
	}
	return own
}

// symbols tells what dictionaries hand on, one behind the other. Too many are refused here, as they come: those who take them ask only when all have come.
func (c *contents) symbols(refs []int) []*api.Bitmap {
	var l []*api.Bitmap
	for _, ref := range refs {
		l = append(l, c.held[ref]...)
		demand(len(l) <= api.MaxSymbols, api.ErrTooBig)
	}
	return l
}

func plain(symbols []*api.Bitmap) []api.Bitmap {
	var l []api.Bitmap
	for _, b := range symbols {
		l = append(l, *b)
	}
	return l
}

// once tells a region with each symbol that it uses but once, though it may have come several times: who draws it takes memory for each.
func once(t api.Text, symbols []*api.Bitmap) (api.Text, []api.Bitmap) {
	places := map[*api.Bitmap]int{}
	var used []api.Bitmap
	for i, instance := range t.L {
		symbol := symbols[instance.Symbol]
		place, ok := places[symbol]
		if !ok {
			place = len(used)
			places[symbol] = place
			used = append(used, *symbol)
		}
		t.L[i].Symbol = place
	}
	return t, used
}

// lastRow reads a stripe's last row.
func lastRow(data []byte) int {
	r := bits.NewReader(data)
	n, err := r.Var()
	demand(err == api.OK && n <= api.MaxArea && r.Left() == 0, api.ErrPageForm)
	return int(n)
}
