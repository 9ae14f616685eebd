package doc_test

import (
	"math"
	"math/big"
	"slices"
	"testing"

	"burin/api"
	"burin/codec"
	"burin/doc"
)

// pixels is a page the plainest way: rows of noughts and ones.
type pixels [][]int

func blank(w, h int) pixels {
	p := make(pixels, h)
	for y := range p {
		p[y] = make([]int, w)
	}
	return p
}

func (p pixels) clone() pixels {
	q := make(pixels, len(p))
	for y, row := range p {
		q[y] = slices.Clone(row)
	}
	return q
}

// has asks for a pixel of any place.
func (p pixels) has(x, y *big.Int) bool {
	return x.Sign() >= 0 && x.Cmp(number(len(p[0]))) < 0 && y.Sign() >= 0 && y.Cmp(number(len(p))) < 0
}

// plain packs the pixels, one by one.
func (p pixels) plain() api.Bitmap {
	w, h := len(p[0]), len(p)
	stride := (w + 63) / 64
	b := api.Bitmap{W: w, H: h, Bits: make([]uint64, h*stride)}
	for y, row := range p {
		for x, bit := range row {
			b.Bits[y*stride+x/64] |= uint64(bit) << (63 - x%64)
		}
	}
	return b
}

func number(n int) *big.Int {
	return big.NewInt(int64(n))
}

// within tells whether v is from from up to, and without, from + n.
func within(v, from, n int) bool {
	end := number(from)
	end.Add(end, number(n))
	return from <= v && number(v).Cmp(end) < 0
}

// moved is the place v of the one raster, told in the other: v - to + from.
func moved(v, to, from int) *big.Int {
	place := number(v)
	place.Sub(place, number(to))
	return place.Add(place, number(from))
}

func (p pixels) fill(x, y, w, h, bit int) {
	for j, row := range p {
		for i := range row {
			if within(i, x, w) && within(j, y, h) {
				row[i] = bit
			}
		}
	}
}

func (p pixels) blit(src pixels, sx, sy, w, h, dx, dy, op int) {
	src = src.clone()
	for j, row := range p {
		for i, d := range row {
			x, y := moved(i, dx, sx), moved(j, dy, sy)
			if within(i, dx, w) && within(j, dy, h) && src.has(x, y) {
				row[i] = operated(d, src[y.Int64()][x.Int64()], op)
			}
		}
	}
}

func operated(d, s, op int) int {
	switch op {
	case api.OpOr:
		return max(d, s)
	case api.OpAnd:
		return min(d, s)
	case api.OpXor:
		return (d + s) % 2
	case api.OpXnor:
		return (d + s + 1) % 2
	}
	return s
}

// model is a document by the chapter's words: all its pages are remembered ahead of each step.
type model struct {
	pages  []pixels
	before [][]pixels
}

func (m *model) has(page int) bool {
	return page >= 0 && page < len(m.pages)
}

func (m *model) copied() []pixels {
	var l []pixels
	for _, p := range m.pages {
		l = append(l, p.clone())
	}
	return l
}

// step remembers what stands, 64 times at most.
func (m *model) step() {
	m.before = append(m.before, m.copied())
	m.before = m.before[max(0, len(m.before)-64):]
}

func (m *model) newPage(w, h int) (int, api.Errno) {
	area := new(big.Int).Mul(number(w), number(h))
	if w < 1 || h < 1 || area.Cmp(number(1<<20)) > 0 {
		return 0, api.ErrArea
	}
	if len(m.pages) == 64 {
		return 0, api.ErrPages
	}
	m.step()
	m.pages = append(m.pages, blank(w, h))
	return len(m.pages) - 1, api.OK
}

func (m *model) set(page, x, y, bit int) api.Errno {
	if !m.has(page) || !m.pages[page].has(number(x), number(y)) {
		return api.ErrPlace
	}
	if bit != 0 && bit != 1 {
		return api.ErrDraw
	}
	m.step()
	m.pages[page][y][x] = bit
	return api.OK
}

func (m *model) fill(page, x, y, w, h, bit int) api.Errno {
	if !m.has(page) {
		return api.ErrPlace
	}
	if w < 0 || h < 0 || bit != 0 && bit != 1 {
		return api.ErrDraw
	}
	m.step()
	m.pages[page].fill(x, y, w, h, bit)
	return api.OK
}

func (m *model) blit(from, sx, sy, w, h, to, dx, dy, op int) api.Errno {
	if !m.has(from) || !m.has(to) {
		return api.ErrPlace
	}
	if w < 0 || h < 0 || op < 0 || op > 4 {
		return api.ErrDraw
	}
	m.step()
	m.pages[to].blit(m.pages[from], sx, sy, w, h, dx, dy, op)
	return api.OK
}

func (m *model) undo() bool {
	if len(m.before) == 0 {
		return false
	}
	last := len(m.before) - 1
	m.pages, m.before = m.before[last], m.before[:last]
	return true
}

// both is a document, and what the chapter's words make of it.
type both struct {
	t *testing.T
	d *doc.Doc
	m *model
}

func begin(t *testing.T) both {
	return both{t, doc.New(), &model{}}
}

func (b both) wantErr(what string, got, want api.Errno) {
	b.t.Helper()
	if got != want {
		b.t.Fatalf("%s: error %d, want %d", what, got, want)
	}
}

// wantPages holds all pages against the model's, word by word.
func (b both) wantPages(what string) {
	b.t.Helper()
	if b.d.Pages() != len(b.m.pages) {
		b.t.Fatalf("%s: %d pages, want %d", what, b.d.Pages(), len(b.m.pages))
	}
	for i, p := range b.m.pages {
		got, err := b.d.Page(i)
		if want := p.plain(); err != api.OK || !same(got, want) {
			b.t.Fatalf("%s: page %d is %v, error %d, want %v", what, i, got, err, want)
		}
	}
}

func (b both) newPage(w, h int) {
	b.t.Helper()
	page, err := b.d.NewPage(w, h)
	want, fault := b.m.newPage(w, h)
	if page != want || err != fault {
		b.t.Fatalf("NewPage(%d, %d): %d, error %d, want %d, %d", w, h, page, err, want, fault)
	}
}

func (b both) set(page, x, y, bit int) {
	b.t.Helper()
	b.wantErr("Set", b.d.Set(page, x, y, bit), b.m.set(page, x, y, bit))
}

func (b both) fill(page, x, y, w, h, bit int) {
	b.t.Helper()
	b.wantErr("Fill", b.d.Fill(page, x, y, w, h, bit), b.m.fill(page, x, y, w, h, bit))
}

func (b both) blit(from, sx, sy, w, h, to, dx, dy, op int) {
	b.t.Helper()
	b.wantErr("Blit", b.d.Blit(from, sx, sy, w, h, to, dx, dy, op), b.m.blit(from, sx, sy, w, h, to, dx, dy, op))
}

func (b both) undo() bool {
	b.t.Helper()
	got, want := b.d.Undo(), b.m.undo()
	if got != want {
		b.t.Fatalf("Undo: %v, want %v", got, want)
	}
	return got
}

// draw does something by chance, most of it what may be.
func (b both) draw(d *dice) {
	b.t.Helper()
	n := len(b.m.pages) + d.below(12)/11
	switch d.below(8) {
	case 0:
		b.newPage(d.wide(), d.below(9))
	case 1, 2:
		b.set(d.below(n+1), d.below(70), d.below(9)-1, d.below(2))
	case 3, 4:
		b.fill(d.below(n+1), d.far(80), d.far(6), d.size(100), d.size(8), d.below(2))
	default:
		b.blit(d.below(n+1), d.far(80), d.far(6), d.size(100), d.size(8), d.below(n+1), d.far(80), d.far(6), d.below(5))
	}
}

// same holds bitmaps against each other that need not be any.
func same(a, b api.Bitmap) bool {
	return a.W == b.W && a.H == b.H && slices.Equal(a.Bits, b.Bits)
}

// pagesOf are a document's pages.
func pagesOf(d *doc.Doc) []api.Bitmap {
	var l []api.Bitmap
	for i := range d.Pages() {
		b, _ := d.Page(i)
		l = append(l, b)
	}
	return l
}

// opened is a document of pages.
func opened(t *testing.T, pages []api.Bitmap) *doc.Doc {
	t.Helper()
	f, err := codec.Encode(pages, api.Options{})
	d, fault := doc.Open(f)
	if err != api.OK || fault != api.OK || d == nil || !slices.EqualFunc(pagesOf(d), pages, same) {
		t.Fatalf("Open of %d pages: errors %d, %d", len(pages), err, fault)
	}
	return d
}

// dice tells numbers that are the same in each run.
type dice uint64

func (d *dice) word() uint64 {
	*d += 0x9e3779b97f4a7c15
	z := uint64(*d)
	z = (z ^ z>>30) * 0xbf58476d1ce4e5b9
	z = (z ^ z>>27) * 0x94d049bb133111eb
	return z ^ z>>31
}

func (d *dice) below(n int) int {
	return int(d.word() % uint64(n))
}

// wide tells widths, those about whole words more often.
func (d *dice) wide() int {
	if d.below(2) == 0 {
		return []int{1, 2, 63, 64, 65, 127, 128, 129}[d.below(8)]
	}
	return 1 + d.below(100)
}

// far is a place by chance, near or at the ends of what an int is.
func (d *dice) far(near int) int {
	if d.below(8) == 0 {
		ends := farInts()
		return ends[d.below(len(ends))]
	}
	return d.below(2*near) - near/2
}

// size is a width or height by chance, great ones among them.
func (d *dice) size(near int) int {
	if d.below(6) == 0 {
		return []int{0, math.MaxInt, math.MaxInt - 1, 1 << 62, 1 << 32}[d.below(5)]
	}
	return d.below(near)
}

// drawn is pixels by chance.
func (d *dice) drawn(w, h int) pixels {
	p := blank(w, h)
	for _, row := range p {
		for x := range row {
			row[x] = d.below(2)
		}
	}
	return p
}

// plains are bitmaps by chance.
func (d *dice) plains(n int) []api.Bitmap {
	var l []api.Bitmap
	for range n {
		l = append(l, d.drawn(d.wide(), 1+d.below(9)).plain())
	}
	return l
}

func (d *dice) options() api.Options {
	return api.Options{
		Mode:      d.below(4),
		Template:  d.below(4),
		Strip:     d.below(4),
		Stripe:    []int{0, 0, 1, 3}[d.below(4)],
		Tolerance: []float64{0, 0.25, math.Inf(1)}[d.below(3)],
		Random:    d.below(2) == 0,
	}
}

// farInts are numbers at the ends of all kinds.
func farInts() []int {
	return []int{math.MinInt, math.MinInt + 1, math.MinInt + 64, -1 << 62, -1 << 32, -65, -64, -1, 0, 1, 2, 5, 63, 64, 65, 1 << 20, 1<<20 + 1, 1 << 32, 1 << 62, math.MaxInt - 64, math.MaxInt - 1, math.MaxInt}
}
