package plan

import (
	"maps"
	"slices"

	"burin/api"
	"burin/bitmap"
	"burin/text"
)

// use is a piece that stands for its class.
type use struct {
	piece   api.Piece
	class   int
	differs bool
}

// need is a dictionary that a region needs: how many symbols those ahead of it export.
type need struct {
	ahead int
}

func (l *library) usesOf(pieces []api.Piece, classes []int) []use {
	var uses []use
	for i, p := range pieces {
		class := classes[i]
		uses = append(uses, use{piece: p, class: class, differs: !bitmap.Equal(p.B, l.reps[class])})
	}
	return uses
}

// refined tells how many pixels of a use are coded in its region.
func (u use) refined() int {
	if u.differs {
		return areaOf(u.piece.B)
	}
	return 0
}

// addRegions adds the text regions of a page.
func (l *library) addRegions(number int, b api.Bitmap, uses []use) {
	for _, part := range cut(uses, api.MaxInstances, use.refined) {
		l.addRegion(number, b, part)
	}
}

func (l *library) addRegion(number int, b api.Bitmap, uses []use) {
	needs := l.needsOf(uses)
	refs := slices.Sorted(maps.Keys(needs))
	var symbols []api.Bitmap
	for _, ref := range refs {
		needs[ref] = need{ahead: len(symbols)}
		symbols = append(symbols, l.looks(l.shelves[ref])...)
	}
	t := api.Text{W: b.W, H: b.H, Op: api.OpOr, Refine: l.o.Mode == api.ModeRefine, Strip: l.o.Strip}
	for _, u := range uses {
		t.L = append(t.L, l.instance(u, needs))
	}
	data, _ := text.Encode(t, symbols)
	l.add(api.Segment{Kind: api.SegText, Page: number, Refs: refs, Keep: make([]bool, len(refs)), Data: data})
}

// needsOf tells the dictionaries that a region needs, by their numbers; none of them stands ahead of another so far.
func (l *library) needsOf(uses []use) map[int]need {
	needs := map[int]need{}
	for _, u := range uses {
		needs[l.homes[u.class].dict] = need{}
	}
	return needs
}

func (l *library) instance(u use, needs map[int]need) api.Instance {
	at := l.homes[u.class]
	i := api.Instance{X: u.piece.X, Y: u.piece.Y, Symbol: needs[at.dict].ahead + at.place, Differ: u.differs}
	if u.differs {
		i.B = u.piece.B
	}
	return i
}
