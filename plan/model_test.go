package plan_test

import (
	"bytes"
	"fmt"
	"math"
	"slices"
	"testing"

	"burin/api"
	"burin/bitmap"
	"burin/comps"
	"burin/dict"
	"burin/match"
	"burin/page"
	"burin/plan"
	"burin/text"
)

var (
	nan   = math.NaN()
	inf   = math.Inf(1)
	minus = math.Copysign(0, -1)
)

// planned goes by the chapter's words, for pages and options that may be.
func planned(pages []api.Bitmap, o api.Options) ([]api.Segment, api.Errno) {
	if o.Mode < api.ModeSymbols {
		return inRasters(pages, o), api.OK
	}
	m, pieces, err := classified(pages, o)
	if err != api.OK {
		return nil, err
	}
	return inSymbols(pages, m, pieces, o), api.OK
}

// classified puts the pieces of all pages into classes.
func classified(pages []api.Bitmap, o api.Options) (api.Matching, [][]api.Piece, api.Errno) {
	tolerance := map[int]float64{api.ModeRefine: o.Tolerance}[o.Mode]
	pieces := make([][]api.Piece, len(pages))
	var all []api.Bitmap
	for i, b := range pages {
		pieces[i], _ = comps.Of(b)
		for _, p := range pieces[i] {
			all = append(all, p.B)
		}
	}
	m, err := match.Classes(all, tolerance)
	if err != api.OK {
		pieces = nil
	}
	return m, pieces, err
}

// inRasters is what generic modes tell.
func inRasters(pages []api.Bitmap, o api.Options) []api.Segment {
	var l []api.Segment
	for i, b := range pages {
		s := 0
		for o.Stripe > 0 && (s == 0 || len(stripes(b.H, s)) > 16) {
			s += o.Stripe
		}
		l = append(l, api.Segment{Kind: api.SegPage, Page: i + 1, Data: slices.Concat(varOf(b.W), varOf(b.H), []byte{0}, varOf(s))})
		for _, from := range stripes(b.H, s) {
			rows := b.H
			if s > 0 {
				rows = min(s, b.H-from)
			}
			l = append(l, api.Segment{Kind: api.SegGeneric, Page: i + 1, Data: regionData(from, rowsOf(b, from, rows), o)})
			if s > 0 {
				l = append(l, api.Segment{Kind: api.SegStripe, Page: i + 1, Data: varOf(from + rows - 1)})
			}
		}
		l = append(l, api.Segment{Kind: api.SegEndPage, Page: i + 1})
	}
	return finished(l)
}

// stripes tells the first row of each stripe; without stripes all rows are as one.
func stripes(height, s int) []int {
	l := []int{0}
	for s > 0 && l[len(l)-1]+s < height {
		l = append(l, l[len(l)-1]+s)
	}
	return l
}

func rowsOf(b api.Bitmap, from, rows int) api.Bitmap {
	words := len(b.Bits) / b.H
	return api.Bitmap{W: b.W, H: rows, Bits: b.Bits[from*words : (from+rows)*words]}
}

func regionData(y int, b api.Bitmap, o api.Options) []byte {
	f, _ := page.EncodeRegion(api.Region{Y: y, Op: api.OpReplace, Template: o.Template, Skip: o.Mode == api.ModeSkip, B: b})
	return f
}

// varOf spells a number below 2^21.
func varOf(n int) []byte {
	switch {
	case n < 1<<7:
		return []byte{byte(n)}
	case n < 1<<14:
		return []byte{byte(n%128 + 128), byte(n / 128)}
	}
	return []byte{byte(n%128 + 128), byte(n/128%128 + 128), byte(n / 16384)}
}

// inSymbols is what symbol modes tell.
func inSymbols(pages []api.Bitmap, m api.Matching, pieces [][]api.Piece, o api.Options) []api.Segment {
	var l []api.Segment
	dicts := map[int][]int{} // the classes of each dictionary, by its number
	addDicts := func(number int, classes []int) {
		for _, part := range parts(len(classes), api.MaxSymbols, func(i int) int { return area(m.Reps[classes[i]]) }) {
			in := classes[part[0]:part[1]]
			dicts[len(l)] = in
			d := api.Dict{Template: o.Template}
			for _, class := range in {
				d.New, d.Export = append(d.New, m.Reps[class]), append(d.Export, true)
			}
			f, _ := dict.Encode(d, nil)
			l = append(l, api.Segment{Kind: api.SegDict, Page: number, Stay: true, Data: f})
		}
	}
	class := m.Class
	owners := map[int][]int{} // the pages of each class, by its number
	for i, on := range pieces {
		for range on {
			if number := i + 1; !slices.Contains(owners[class[0]], number) {
				owners[class[0]] = append(owners[class[0]], number)
			}
			class = class[1:]
		}
	}
	addDicts(0, ownedBy(m, owners, func(pages []int) bool { return len(pages) > 1 }))
	class = m.Class
	for i, b := range pages {
		l = append(l, api.Segment{Kind: api.SegPage, Page: i + 1, Data: slices.Concat(varOf(b.W), varOf(b.H), []byte{0, 0})})
		addDicts(i+1, ownedBy(m, owners, func(pages []int) bool { return slices.Equal(pages, []int{i + 1}) }))
		own := class[:len(pieces[i])]
		class = class[len(own):]
		for _, part := range parts(len(own), api.MaxInstances, func(k int) int { return differing(pieces[i][k].B, m.Reps[own[k]]) }) {
			l = append(l, regionOf(i+1, b, pieces[i][part[0]:part[1]], own[part[0]:part[1]], m.Reps, dicts, o))
		}
		l = append(l, api.Segment{Kind: api.SegEndPage, Page: i + 1})
	}
	return finished(l)
}

// ownedBy tells classes by the pages that have them, the lowest first, of these the narrowest, of these the first.
func ownedBy(m api.Matching, owners map[int][]int, isOwner func(pages []int) bool) []int {
	var l []int
	for class, b := range m.Reps {
		if !isOwner(owners[class]) {
			continue
		}
		at := 0
		for at < len(l) && (m.Reps[l[at]].H < b.H || m.Reps[l[at]].H == b.H && m.Reps[l[at]].W <= b.W) {
			at++
		}
		l = slices.Insert(l, at, class)
	}
	return l
}

// parts tells from where up to where each part goes: as far as its number of items, and its pixels together, allow.
func parts(n, most int, pixels func(i int) int) [][2]int {
	var l [][2]int
	for from, to := 0, 0; from < n; from = to {
		for room := api.MaxArea; to < n && to < from+most && pixels(to) <= room; to++ {
			room -= pixels(to)
		}
		l = append(l, [2]int{from, to})
	}
	return l
}

func regionOf(number int, b api.Bitmap, pieces []api.Piece, class []int, reps []api.Bitmap, dicts map[int][]int, o api.Options) api.Segment {
	s := api.Segment{Kind: api.SegText, Page: number}
	var all []int // the classes of all symbols
	for n := range 32768 {
		if slices.ContainsFunc(dicts[n], func(c int) bool { return slices.Contains(class, c) }) {
			s.Refs, all = append(s.Refs, n), append(all, dicts[n]...)
		}
	}
	var symbols []api.Bitmap
	for _, c := range all {
		symbols = append(symbols, reps[c])
	}
	t := api.Text{W: b.W, H: b.H, Op: api.OpOr, Refine: o.Mode == api.ModeRefine, Strip: o.Strip}
	for i, p := range pieces {
		x := api.Instance{X: p.X, Y: p.Y, Symbol: slices.Index(all, class[i])}
		if differing(p.B, reps[class[i]]) > 0 {
			x.Differ, x.B = true, p.B
		}
		t.L = append(t.L, x)
	}
	s.Data, _ = text.Encode(t, symbols)
	return s
}

// finished lets the file's end follow, numbers segments, and looks for each reference whether a later segment has it.
func finished(l []api.Segment) []api.Segment {
	l = append(l, api.Segment{Kind: api.SegEndFile})
	for i := range l {
		l[i].Number = i
		for _, ref := range l[i].Refs {
			l[i].Keep = append(l[i].Keep, slices.ContainsFunc(l[i+1:], func(s api.Segment) bool { return slices.Contains(s.Refs, ref) }))
		}
	}
	return l
}

func area(b api.Bitmap) int {
	return b.W * b.H
}

// differing tells how many pixels a piece has, if it is not equal to its class's bitmap.
func differing(b, rep api.Bitmap) int {
	if slices.Equal(b.Bits, rep.Bits) {
		return 0
	}
	return area(b)
}

// raster is a bitmap of lines: # is black.
func raster(lines ...string) api.Bitmap {
	m, _ := bitmap.New(len(lines[0]), len(lines))
	for y, line := range lines {
		for x, c := range line {
			if c == '#' {
				m.Set(x, y, 1)
			}
		}
	}
	return m.Plain()
}

func blank(w, h int) api.Bitmap {
	m, _ := bitmap.New(w, h)
	return m.Plain()
}

// frame draws a piece of that size: its edge alone is black, and so many pixels inside, along the upper edge.
func frame(m *bitmap.Map, x, y, w, h, more int) {
	m.Fill(x, y, w, h, 1)
	m.Fill(x+1, y+1, w-2, h-2, 0)
	m.Fill(x+1, y+1, more, 1, 1)
}

// framed is a page of frames, one within the other: of each the width, the height, and how many pixels more it has. Each stands two pixels from the upper and left edge of the one about it.
func framed(w, h int, frames ...[3]int) api.Bitmap {
	m, _ := bitmap.New(w, h)
	for i, f := range frames {
		frame(m, 3*i, 3*i, f[0], f[1], f[2])
	}
	return m.Plain()
}

// dice tells numbers that are the same in each run.
type dice uint64

func (d *dice) word() uint64 {
	*d += 0x9e3779b97f4a7c15
	z := uint64(*d)
	z = (z ^ z>>30) * 0xbf58476d1ce4e5b9
	z = (z ^ z>>27) * 0x94d049bb133111eb
	return z ^ z>>31
}

func (d *dice) below(n int) int {
	return int(d.word() % uint64(n))
}

// scattered is a bitmap of which about one of so many pixels is black.
func (d *dice) scattered(w, h, of int) api.Bitmap {
	m, _ := bitmap.New(w, h)
	for i := range w * h {
		if d.below(of) == 0 {
			m.Set(i%w, i/w, 1)
		}
	}
	return m.Plain()
}

// pages are some on which few stamps stand, more or less worn, and dirt.
func (d *dice) pages() []api.Bitmap {
	var stamps []*bitmap.Map
	for range 1 + d.below(6) {
		m, _ := bitmap.From(d.scattered(1+d.below(5), 1+d.below(4), 1+d.below(3)))
		stamps = append(stamps, m)
	}
	var pages []api.Bitmap
	for range d.below(6) {
		w, h := 1+d.below(70), 1+d.below(40)
		m, _ := bitmap.From(d.scattered(w, h, 40+d.below(1000)))
		for range d.below(30) {
			stamp := stamps[d.below(len(stamps))]
			sw, sh := stamp.Size()
			x, y := d.below(w), d.below(h)
			m.Blit(stamp, 0, 0, sw, sh, x, y, api.OpOr)
			if d.below(4) == 0 {
				m.Set(x+d.below(sw), y+d.below(sh), d.below(2))
			}
		}
		pages = append(pages, m.Plain())
	}
	return pages
}

func (d *dice) options() api.Options {
	tolerances := []float64{0, minus, 0.1, 0.25, 0.5, 1, inf, 5e-324}
	return api.Options{
		Mode:      d.below(4),
		Template:  d.below(4),
		Strip:     d.below(4),
		Stripe:    []int{0, 0, 1, 2, 3, 7, 40, api.MaxArea}[d.below(8)],
		Tolerance: tolerances[d.below(len(tolerances))],
		Random:    d.below(2) == 0,
	}
}

// farInts are numbers at the ends of all kinds.
func farInts() []int {
	return []int{math.MinInt, -1 << 32, -5, -4, -1, 0, 1, 2, 3, 4, 5, 16, 64, 1 << 20, 1<<20 + 1, 1 << 32, 1<<32 + 1, math.MaxInt}
}

// wrongTolerances are none.
func wrongTolerances() []float64 {
	return []float64{nan, math.Float64frombits(0xfff8000000000000), math.Float64frombits(0x7ff0000000000001), -1, -5e-324, -math.MaxFloat64, math.Inf(-1)}
}

// wrongBitmaps may not be.
func wrongBitmaps() []api.Bitmap {
	return []api.Bitmap{
		{},
		{W: 1, H: 1},
		{W: 0, H: 1},
		{W: -1, H: -1, Bits: []uint64{0}},
		{W: 1, H: 1, Bits: []uint64{1}},
		{W: 1, H: 1, Bits: []uint64{0, 0}},
		{W: 65, H: 1, Bits: []uint64{0}},
		{W: 65, H: 2, Bits: []uint64{0, 0, 0, 1 << 62}},
		{W: 64, H: 1<<14 + 1, Bits: make([]uint64, 1<<14+1)},
		{W: math.MaxInt, H: math.MaxInt, Bits: []uint64{0}},
		{W: math.MinInt, H: math.MinInt},
		{W: 1 << 32, H: 1 << 32},
	}
}

func sameSegment(a, b api.Segment) bool {
	return a.Number == b.Number && a.Kind == b.Kind && a.Page == b.Page && a.Stay == b.Stay &&
		slices.Equal(a.Refs, b.Refs) && slices.Equal(a.Keep, b.Keep) && bytes.Equal(a.Data, b.Data)
}

func samePieces(a, b []api.Piece) bool {
	return slices.EqualFunc(a, b, func(p, q api.Piece) bool { return p.X == q.X && p.Y == q.Y && bitmap.Equal(p.B, q.B) })
}

// sketch tells of each segment its kind, its page, and its references, with a k behind those that are kept.
func sketch(l []api.Segment) string {
	s := ""
	for _, x := range l[:min(len(l), 60)] {
		s += fmt.Sprintf("%d:%d", x.Kind, x.Page)
		for i, ref := range x.Refs {
			s += fmt.Sprintf(" %d", ref)
			if x.Keep[i] {
				s += "k"
			}
		}
		s += "|"
	}
	return s
}

// wantSegments asks for what the chapter's words tell, and tells it.
func wantSegments(t *testing.T, pages []api.Bitmap, o api.Options) []api.Segment {
	t.Helper()
	want, fault := planned(pages, o)
	l, err := plan.Segments(pages, o)
	if err != fault || !slices.EqualFunc(l, want, sameSegment) {
		at := 0
		for at < min(len(l), len(want)) && sameSegment(l[at], want[at]) {
			at++
		}
		t.Fatalf("Segments(%d pages, %+v): %s, error %d, want %s, %d; unlike from %d on", len(pages), o, sketch(l), err, sketch(want), fault, at)
	}
	return l
}

// wantSketch asks, too, which segments there are.
func wantSketch(t *testing.T, want string, pages []api.Bitmap, o api.Options) []api.Segment {
	t.Helper()
	l := wantSegments(t, pages, o)
	if sketch(l) != want {
		t.Fatalf("Segments(%d pages, %+v): %s, want %s", len(pages), o, sketch(l), want)
	}
	return l
}

func wantSymbols(t *testing.T, pages []api.Bitmap, o api.Options) (api.Matching, [][]api.Piece) {
	t.Helper()
	want, on, fault := classified(pages, o)
	m, pieces, err := plan.Symbols(pages, o)
	if err != fault || !slices.Equal(m.Class, want.Class) || !slices.EqualFunc(m.Reps, want.Reps, bitmap.Equal) || !slices.EqualFunc(pieces, on, samePieces) {
		t.Fatalf("Symbols(%d pages, %+v): %v, %v, error %d, want %v, %v, %d", len(pages), o, m, pieces, err, want, on, fault)
	}
	return m, pieces
}

// wantRefused asks both for an error, and for nothing beside it.
func wantRefused(t *testing.T, pages []api.Bitmap, o api.Options, want api.Errno) {
	t.Helper()
	if l, err := plan.Segments(pages, o); err != want || l != nil {
		t.Fatalf("Segments(%d pages, %+v): %s, error %d, want %d", len(pages), o, sketch(l), err, want)
	}
	wantNoSymbols(t, pages, o, want)
}

func wantNoSymbols(t *testing.T, pages []api.Bitmap, o api.Options, want api.Errno) {
	t.Helper()
	if m, pieces, err := plan.Symbols(pages, o); err != want || m.Class != nil || m.Reps != nil || pieces != nil {
		t.Fatalf("Symbols(%d pages, %+v): %v, %v, error %d, want %d", len(pages), o, m, pieces, err, want)
	}
}
