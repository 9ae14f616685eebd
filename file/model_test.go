package file_test

import (
	"bytes"
	"encoding/binary"
	"fmt"
	"math"
	"slices"
	"testing"

	"burin/api"
	"burin/bitmap"
	"burin/dict"
	"burin/file"
	"burin/page"
	"burin/segment"
	"burin/text"
)

// vars are numbers as Vars, one behind the other.
func vars(l ...uint64) []byte {
	var f []byte
	for _, n := range l {
		f = binary.AppendUvarint(f, n)
	}
	return f
}

// head is a header's bytes, of whatever is in the segment; length stands for its data.
func head(s api.Segment, length uint64) []byte {
	f := append(vars(uint64(s.Number)), byte(s.Kind))
	f = append(f, vars(uint64(s.Page), uint64(len(s.Refs)))...)
	for _, ref := range s.Refs {
		f = append(f, vars(uint64(ref))...)
	}
	flags := make([]byte, len(s.Keep)/8+1)
	for i, flag := range append(slices.Clone(s.Keep), s.Stay) {
		if flag {
			flags[i/8] |= 128 >> (i % 8)
		}
	}
	return slices.Concat(f, flags, vars(length))
}

// begun is what a file begins with, of whatever numbers.
func begun(how byte, pages uint64) []byte {
	return append([]byte{0x42, 0x55, 0x52, 1, how}, vars(pages)...)
}

// laid is a file's bytes, of whatever segments.
func laid(pages uint64, l []api.Segment, random bool) []byte {
	if !random {
		f := begun(0, pages)
		for _, s := range l {
			f = slices.Concat(f, head(s, uint64(len(s.Data))), s.Data)
		}
		return f
	}
	f := begun(1, pages)
	var data []byte
	for _, s := range l {
		f = append(f, head(s, uint64(len(s.Data)))...)
		data = append(data, s.Data...)
	}
	return append(f, data...)
}

// countOf tells how many segments are of a kind.
func countOf(l []api.Segment, kind int) int {
	n := 0
	for _, s := range l {
		if s.Kind == kind {
			n++
		}
	}
	return n
}

// heldOf tells what is held behind segments: each dictionary that stayed, and that none behind it let go.
func heldOf(l []api.Segment) []int {
	var held []int
	for n, d := range l {
		isHeld := d.Stay
		for _, s := range l[n+1:] {
			at := slices.Index(s.Refs, n)
			isHeld = isHeld && (at < 0 || s.Keep[at])
		}
		if isHeld {
			held = append(held, n)
		}
	}
	return held
}

// openOf tells which page is open behind segments; 0: none.
func openOf(l []api.Segment) int {
	if n := countOf(l, api.SegPage); n > countOf(l, api.SegEndPage) {
		return n
	}
	return 0
}

// headFault is the fault of a segment that may be, behind others; the file is to have so many pages.
func headFault(ahead []api.Segment, s api.Segment, pages int) api.Errno {
	open, begun := openOf(ahead), countOf(ahead, api.SegPage)
	may := s.Page == open
	switch s.Kind {
	case api.SegPage:
		may = open == 0 && s.Page == begun+1 && begun+1 <= pages
	case api.SegDict:
		may = s.Page == 0 || s.Page == open
	case api.SegEndFile:
		may = open == 0 && begun == pages
	}
	switch {
	case s.Number != len(ahead):
		return api.ErrHead
	case !may:
		return api.ErrPageOrder
	}
	held := heldOf(ahead)
	for _, ref := range s.Refs {
		if !slices.Contains(held, ref) {
			return api.ErrNoSegment
		}
	}
	return api.OK
}

// mayBe tells whether segments may be a file's.
func mayBe(l []api.Segment) bool {
	pages := countOf(l, api.SegPage)
	if len(l) == 0 || l[len(l)-1].Kind != api.SegEndFile || countOf(l, api.SegEndFile) != 1 || pages > 64 {
		return false
	}
	for i, s := range l {
		if !segment.Check(s) {
			return false
		}
		if headFault(l[:i], s, pages) != api.OK {
			return false
		}
	}
	return true
}

// told is what should be told of a file.
type told struct {
	l      []api.Segment
	random bool
	pages  []api.Bitmap
	held   []api.Held
	err    api.Errno
}

// model reads a file as the chapter's words do.
type model struct {
	f       []byte
	at      int
	inside  bool // what is in the data, too
	l       []api.Segment
	lengths []int
	symbols map[int][]api.Bitmap // what each dictionary exports, held or not
	p       *page.Page
	pages   []api.Bitmap
}

func toldFile(f []byte, inside bool) told {
	random, pages, at, err := toldBeginning(f)
	if err != api.OK {
		return told{err: err}
	}
	m := model{f: f, at: at, inside: inside, symbols: map[int][]api.Bitmap{}}
	for len(m.l) == 0 || m.l[len(m.l)-1].Kind != api.SegEndFile {
		if err := m.head(pages); err != api.OK {
			return told{err: err}
		}
		if !random {
			if err := m.data(len(m.l) - 1); err != api.OK {
				return told{err: err}
			}
		}
	}
	for k := range m.l {
		if random {
			if err := m.data(k); err != api.OK {
				return told{err: err}
			}
		}
	}
	if m.at < len(f) {
		return told{err: api.ErrMore}
	}
	return m.told(random)
}

func toldBeginning(f []byte) (random bool, pages, at int, err api.Errno) {
	switch {
	case len(f) < 4 || string(f[:4]) != "BUR\x01":
		return false, 0, 0, api.ErrMagic
	case len(f) == 4:
		return false, 0, 0, api.ErrEnd
	case f[4] > 1:
		return false, 0, 0, api.ErrHead
	}
	n, length, err := toldVar(f[5:])
	switch {
	case err != api.OK:
		return false, 0, 0, err
	case n > 64:
		return false, 0, 0, api.ErrHead
	}
	return f[4] == 1, int(n), 5 + length, api.OK
}

// toldVar reads a Var as the document's words do; how many bytes it takes.
func toldVar(f []byte) (n uint64, length int, err api.Errno) {
	for k, group := range f {
		if k > 0 && group == 0 || k == 9 && group > 1 {
			return 0, 0, api.ErrHead
		}
		n += uint64(group%128) << (7 * k)
		if group < 128 {
			return n, k + 1, api.OK
		}
	}
	return 0, 0, api.ErrEnd
}

func (m *model) head(pages int) api.Errno {
	s, length, end, err := segment.Decode(m.f, m.at)
	if err != api.OK {
		return err
	}
	if err := headFault(m.l, s, pages); err != api.OK {
		return err
	}
	m.l, m.lengths, m.at = append(m.l, s), append(m.lengths, length), end
	return api.OK
}

func (m *model) data(k int) api.Errno {
	if len(m.f)-m.at < m.lengths[k] {
		return api.ErrEnd
	}
	m.l[k].Data = m.f[m.at : m.at+m.lengths[k]]
	m.at += m.lengths[k]
	if !m.inside {
		return api.OK
	}
	return m.content(m.l[k])
}

func (m *model) content(s api.Segment) api.Errno {
	var symbols []api.Bitmap
	for _, ref := range s.Refs {
		symbols = append(symbols, m.symbols[ref]...)
	}
	switch s.Kind {
	case api.SegPage:
		sheet, err := page.DecodeSheet(s.Data)
		m.p, _ = page.New(sheet)
		return err
	case api.SegDict:
		d, err := dict.Decode(s.Data, symbols)
		if err == api.OK {
			m.symbols[s.Number], _ = dict.Exported(d, symbols)
		}
		return err
	case api.SegText:
		r, err := text.Decode(s.Data, symbols)
		if err != api.OK {
			return err
		}
		b, _ := text.Draw(r, symbols)
		return m.p.Add(r.X, r.Y, r.Op, b)
	case api.SegGeneric:
		r, err := page.DecodeRegion(s.Data)
		if err != api.OK {
			return err
		}
		return m.p.Add(r.X, r.Y, r.Op, r.B)
	case api.SegStripe:
		n, length, err := toldVar(s.Data)
		if err != api.OK || length < len(s.Data) || n > 1<<20 {
			return api.ErrPageForm
		}
		return m.p.Stripe(int(n))
	case api.SegEndPage:
		b, err := m.p.End()
		m.pages = append(m.pages, b)
		return err
	}
	return api.OK
}

func (m *model) told(random bool) told {
	if !m.inside {
		return told{l: m.l, random: random}
	}
	var held []api.Held
	for i := range m.l {
		held = append(held, api.Held{Number: i, Dicts: heldOf(m.l[:i+1])})
	}
	return told{pages: m.pages, held: held}
}

// dice tells numbers that are the same in each run.
type dice uint64

func (d *dice) below(n int) int {
	*d += 0x9e3779b97f4a7c15
	z := uint64(*d)
	z = (z ^ z>>30) * 0xbf58476d1ce4e5b9
	z = (z ^ z>>27) * 0x94d049bb133111eb
	return int((z ^ z>>31) % uint64(n))
}

func (d *dice) drawn(w, h int) api.Bitmap {
	m, _ := bitmap.New(w, h)
	for i := range w * h {
		m.Set(i%w, i/w, d.below(2))
	}
	return m.Plain()
}

func (d *dice) noise(n int) []byte {
	b := make([]byte, n)
	for i := range b {
		b[i] = byte(d.below(256))
		if d.below(3) > 0 {
			b[i] = []byte{0, 1, 2, 3, 7, 0x40, 0x80, 0xff}[d.below(8)]
		}
	}
	return b
}

// maker makes segments of a document that may be read.
type maker struct {
	*dice
	l       []api.Segment
	symbols map[int][]api.Bitmap
	sheet   api.Sheet
	next    int // the first row of the open page that is not ended
}

// document is a document of up to three pages, with regions and dictionaries.
func (d *dice) document() []api.Segment {
	m := maker{dice: d, symbols: map[int][]api.Bitmap{}}
	for range d.below(4) {
		for range d.below(3) {
			m.dictionary()
		}
		m.page()
	}
	m.add(api.Segment{Kind: api.SegEndFile})
	return m.l
}

// add gives a segment its number, and a flag for each reference.
func (m *maker) add(s api.Segment) {
	s.Number = len(m.l)
	for range s.Refs {
		s.Keep = append(s.Keep, m.below(4) > 0)
	}
	m.l = append(m.l, s)
}

func (m *maker) page() {
	m.sheet, m.next = api.Sheet{W: 1 + m.below(20), H: 1 + m.below(9), Default: m.below(2), Stripe: m.below(4)}, 0
	f, _ := page.EncodeSheet(m.sheet)
	m.add(api.Segment{Kind: api.SegPage, Page: countOf(m.l, api.SegPage) + 1, Data: f})
	m.items()
	for m.sheet.Stripe > 0 && m.next < m.sheet.H {
		last := min(m.next+m.sheet.Stripe, m.sheet.H) - 1
		m.add(api.Segment{Kind: api.SegStripe, Page: openOf(m.l), Data: vars(uint64(last))})
		m.next = last + 1
		m.items()
	}
	m.add(api.Segment{Kind: api.SegEndPage, Page: openOf(m.l)})
}

// items are what may stand between a page's stripes.
func (m *maker) items() {
	for range m.below(4) {
		switch m.below(3) {
		case 0:
			m.dictionary()
		case 1:
			m.generic()
		case 2:
			m.text()
		}
	}
}

// place is where a region of a height may stand.
func (m *maker) place() (x, y, h int) {
	x = m.below(m.sheet.W + 2)
	if m.sheet.Stripe == 0 {
		return x, m.below(m.sheet.H + 2), 1 + m.below(6)
	}
	h = 1 + m.below(m.sheet.Stripe)
	return x, m.next + m.below(m.sheet.Stripe-h+1), h
}

func (m *maker) generic() {
	x, y, h := m.place()
	f, _ := page.EncodeRegion(api.Region{X: x, Y: y, Op: m.below(5), Template: m.below(4), Skip: m.below(2) == 0, B: m.drawn(1+m.below(9), h)})
	m.add(api.Segment{Kind: api.SegGeneric, Page: openOf(m.l), Data: f})
}

// refs are some of the dictionaries that are held, and what these export.
func (m *maker) refs() (refs []int, symbols []api.Bitmap) {
	for _, n := range heldOf(m.l) {
		if m.below(3) > 0 {
			refs, symbols = append(refs, n), append(symbols, m.symbols[n]...)
		}
	}
	return refs, symbols
}

func (m *maker) dictionary() {
	refs, symbols := m.refs()
	d := api.Dict{Template: m.below(4)}
	w, h := 1+m.below(5), 1+m.below(3)
	for range m.below(4) {
		d.New = append(d.New, m.drawn(w, h))
		w, h = w+m.below(2), h+m.below(2)
	}
	for range len(symbols) + len(d.New) {
		d.Export = append(d.Export, m.below(3) > 0)
	}
	f, _ := dict.Encode(d, symbols)
	m.symbols[len(m.l)], _ = dict.Exported(d, symbols)
	m.add(api.Segment{Kind: api.SegDict, Page: []int{0, openOf(m.l)}[m.below(2)], Refs: refs, Stay: m.below(4) > 0, Data: f})
}

func (m *maker) text() {
	refs, symbols := m.refs()
	x, y, h := m.place()
	r := api.Text{X: x, Y: y, W: 1 + m.below(12), H: h, Op: m.below(5), Refine: m.below(2) == 0, Default: m.below(2), Strip: m.below(4)}
	for range m.below(5) * min(1, len(symbols)) {
		i := api.Instance{X: m.below(14) - 3, Y: m.below(10) - 3, Symbol: m.below(len(symbols))}
		symbol := symbols[i.Symbol]
		other := m.drawn(symbol.W, symbol.H)
		if r.Refine && !bitmap.Equal(other, symbol) {
			i.Differ, i.B = true, other
		}
		r.L = append(r.L, i)
	}
	f, _ := text.Encode(r, symbols)
	m.add(api.Segment{Kind: api.SegText, Page: openOf(m.l), Refs: refs, Data: f})
}

// row numbers segments; none keeps what it refers to, if it doesn't say so.
func row(l ...api.Segment) []api.Segment {
	for i := range l {
		l[i].Number = i
		if len(l[i].Keep) == 0 {
			l[i].Keep = make([]bool, len(l[i].Refs))
		}
	}
	return l
}

func seg(kind, page int, data []byte, refs ...int) api.Segment {
	return api.Segment{Kind: kind, Page: page, Refs: refs, Data: data}
}

func stays(s api.Segment) api.Segment {
	s.Stay = true
	return s
}

func keeps(s api.Segment, keep ...bool) api.Segment {
	s.Keep = keep
	return s
}

// raster is a bitmap of lines: # is black.
func raster(lines ...string) api.Bitmap {
	m, _ := bitmap.New(len(lines[0]), len(lines))
	for y, line := range lines {
		for x, c := range line {
			if c == '#' {
				m.Set(x, y, 1)
			}
		}
	}
	return m.Plain()
}

func blank(w, h int) api.Bitmap {
	m, _ := bitmap.New(w, h)
	return m.Plain()
}

func sheetOf(w, h, stripe int) []byte {
	f, _ := page.EncodeSheet(api.Sheet{W: w, H: h, Stripe: stripe})
	return f
}

func regionOf(y int, b api.Bitmap) []byte {
	f, _ := page.EncodeRegion(api.Region{Y: y, Template: 3, B: b})
	return f
}

// dictOf is a dictionary that exports all.
func dictOf(imported []api.Bitmap, l ...api.Bitmap) []byte {
	d := api.Dict{Template: 3, New: l, Export: slices.Repeat([]bool{true}, len(imported)+len(l))}
	f, _ := dict.Encode(d, imported)
	return f
}

// textOf is a region at a row, of a height, with an instance of each symbol.
func textOf(y, h int, symbols ...api.Bitmap) []byte {
	r := api.Text{Y: y, W: 9, H: h}
	for i := range symbols {
		r.L = append(r.L, api.Instance{X: i, Symbol: i})
	}
	f, _ := text.Encode(r, symbols)
	return f
}

func dots(n int) []api.Bitmap {
	return slices.Repeat([]api.Bitmap{raster("#")}, n)
}

func sameSegment(a, b api.Segment) bool {
	return a.Number == b.Number && a.Kind == b.Kind && a.Page == b.Page && a.Stay == b.Stay &&
		slices.Equal(a.Refs, b.Refs) && slices.Equal(a.Keep, b.Keep) && bytes.Equal(a.Data, b.Data)
}

func sameHeld(a, b api.Held) bool {
	return a.Number == b.Number && slices.Equal(a.Dicts, b.Dicts)
}

// sketch tells segments in short.
func sketch(l []api.Segment) string {
	var lines []string
	for _, s := range l[:min(len(l), 30)] {
		lines = append(lines, fmt.Sprintf("%d: kind %d, page %d, refs %v %v, stay %v, %.20x", s.Number, s.Kind, s.Page, s.Refs, s.Keep, s.Stay, s.Data))
	}
	return fmt.Sprint(len(l), " segments ", lines)
}

// wantRead asks Read for pages and for what is held, or for an error and nothing else.
func wantRead(t *testing.T, f []byte, want told) {
	t.Helper()
	pages, held, err := file.Read(f)
	if err != want.err || !slices.EqualFunc(pages, want.pages, bitmap.Equal) || !slices.EqualFunc(held, want.held, sameHeld) {
		t.Fatalf("Read(%.200x): %v, %v, error %d, want %v, %v, %d", f, pages, held, err, want.pages, want.held, want.err)
	}
	if err != api.OK && (pages != nil || held != nil) {
		t.Fatalf("Read(%.200x): something beside error %d", f, err)
	}
}

// wantSegments asks Segments likewise.
func wantSegments(t *testing.T, f []byte, want told) {
	t.Helper()
	l, random, err := file.Segments(f)
	if err != want.err || random != want.random || !slices.EqualFunc(l, want.l, sameSegment) {
		t.Fatalf("Segments(%.200x): %s, %v, error %d, want %s, %v, %d", f, sketch(l), random, err, sketch(want.l), want.random, want.err)
	}
	if err != api.OK && (l != nil || random) {
		t.Fatalf("Segments(%.200x): something beside error %d", f, err)
	}
}

// wantAsTold holds both readers against the model; it tells Read's error.
func wantAsTold(t *testing.T, f []byte) api.Errno {
	t.Helper()
	want := toldFile(f, true)
	wantRead(t, f, want)
	wantSegments(t, f, toldFile(f, false))
	return want.err
}

// wantFault asks for errors of both readers, which the model tells, too.
func wantFault(t *testing.T, f []byte, read, apart api.Errno) {
	t.Helper()
	if err := wantAsTold(t, f); err != read {
		t.Fatalf("%.200x: error %d, want %d", f, err, read)
	}
	if _, _, err := file.Segments(f); err != apart {
		t.Fatalf("Segments(%.200x): error %d, want %d", f, err, apart)
	}
}

// wantWrite asks for both organisations of segments, and for these of that.
func wantWrite(t *testing.T, l []api.Segment) {
	t.Helper()
	for _, random := range []bool{false, true} {
		want := laid(uint64(countOf(l, api.SegPage)), l, random)
		if f, err := file.Write(l, random); err != api.OK || !bytes.Equal(f, want) {
			t.Fatalf("Write(%s): %.200x, error %d, want %.200x", sketch(l), f, err, want)
		}
		wantSegments(t, want, told{l: l, random: random})
	}
}

func wantRefused(t *testing.T, l []api.Segment) {
	t.Helper()
	for _, random := range []bool{false, true} {
		if f, err := file.Write(l, random); err != api.ErrFileForm || f != nil {
			t.Fatalf("Write(%s): %.200x, error %d", sketch(l), f, err)
		}
	}
}

// wantWritten asks for what the model says of segments; it tells whether they may be a file's.
func wantWritten(t *testing.T, l []api.Segment) bool {
	t.Helper()
	may := mayBe(l)
	if may {
		wantWrite(t, l)
	} else {
		wantRefused(t, l)
	}
	return may
}

func farInts() []int {
	return []int{math.MinInt, -1 << 32, -1, 65, 32768, 1 << 32, 1<<32 + 1, math.MaxInt}
}

func dictBytes(d api.Dict, imported []api.Bitmap) []byte {
	f, _ := dict.Encode(d, imported)
	return f
}
