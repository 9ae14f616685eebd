package doc_test

import (
	"fmt"
	"math"
	"slices"
	"testing"

	"burin/api"
	"burin/codec"
	"burin/doc"
)

// TestExample: P20.2, P20.3, P20.4: the chapter's example.
func TestExample(t *testing.T) {
	d := doc.New()
	for _, s := range [][2]int{{0, 1}, {1 << 40, 1 << 40}} {
		if page, err := d.NewPage(s[0], s[1]); page != 0 || err != api.ErrArea {
			t.Errorf("NewPage(%d, %d): %d, error %d", s[0], s[1], page, err)
		}
	}
	if err := d.Set(0, 0, 0, 1); err != api.ErrPlace {
		t.Errorf("Set: error %d", err)
	}
	if doc.New().Undo() || d.Undo() {
		t.Error("there was something to be undone")
	}
}

// TestNew: P20.1: a document without pages, apart from any other one.
func TestNew(t *testing.T) {
	d, other := doc.New(), doc.New()
	other.NewPage(3, 4)
	if d == nil || d.Pages() != 0 || d.Undo() || other.Pages() != 1 {
		t.Fatal("a new document has pages")
	}
	if page, err := d.NewPage(1, 1); page != 0 || err != api.OK {
		t.Errorf("the first page: %d, error %d", page, err)
	}
}

// TestOpen: P20.1: files of all kinds of pages; they go on being drawn on as new ones are.
func TestOpen(t *testing.T) {
	dc := dice(1)
	for n := range 40 {
		pages := dc.plains(n % 7)
		d := opened(t, pages)
		page, err := d.NewPage(2, 1)
		if page != len(pages) || err != api.OK {
			t.Fatalf("a page behind %d: %d, error %d", len(pages), page, err)
		}
		for i := range pages {
			bit := 1 - int(pages[i].Bits[0]>>63)
			pages[i].Bits[0] ^= 1 << 63
			if err := d.Set(i, 0, 0, bit); err != api.OK {
				t.Fatalf("Set on page %d: error %d", i, err)
			}
		}
		if got := pagesOf(d)[:len(pages)]; !slices.EqualFunc(got, pages, same) {
			t.Fatalf("%v, want %v", got, pages)
		}
	}
}

// TestOpenFull: P20.1, P20.2: a file of MaxPages pages leaves no room for another.
func TestOpenFull(t *testing.T) {
	dc := dice(2)
	d := opened(t, dc.plains(api.MaxPages))
	if page, err := d.NewPage(1, 1); page != 0 || err != api.ErrPages {
		t.Errorf("%d, error %d", page, err)
	}
	if page, err := opened(t, dc.plains(api.MaxPages-1)).NewPage(1, 1); page != api.MaxPages-1 || err != api.OK {
		t.Errorf("%d, error %d", page, err)
	}
}

// TestNoDocument: P20.1: what codec.Decode says of bytes that are no file.
func TestNoDocument(t *testing.T) {
	dc := dice(3)
	f, _ := codec.Encode(dc.plains(3), api.Options{Mode: api.ModeRefine})
	wrong := [][]byte{nil, {}, []byte("x"), []byte("BUR"), append(slices.Clone(f), 0)}
	for n := range f {
		wrong = append(wrong, f[:n])
	}
	for range 500 {
		g := slices.Clone(f)
		g[dc.below(len(g))] ^= byte(1 + dc.below(255))
		wrong = append(wrong, g)
	}
	for _, g := range wrong {
		pages, want := codec.Decode(g)
		d, err := doc.Open(g)
		if err != want || (d == nil) != (want != api.OK) {
			t.Fatalf("Open(%x): %v, error %d, want %d", g, d, err, want)
		}
		if d != nil && !slices.EqualFunc(pagesOf(d), pages, same) {
			t.Fatalf("Open(%x): other pages than %v", g, pages)
		}
	}
}

// TestNewPage: P20.2: sizes of all kinds, and those that may not be.
func TestNewPage(t *testing.T) {
	b := begin(t)
	for _, w := range farInts() {
		for _, h := range farInts() {
			if w*h > 1<<12 && w <= 1<<20 && h <= 1<<20 && w > 0 && h > 0 {
				continue // great ones that may be, and those just beyond, stand below
			}
			b.newPage(w, h)
		}
	}
	b.wantPages("small pages")
	for _, s := range [][2]int{{1 << 20, 1}, {1, 1 << 20}, {1024, 1024}, {3, 349525}, {1048575, 1}} {
		d := doc.New()
		page, err := d.NewPage(s[0], s[1])
		got, _ := d.Page(0)
		if page != 0 || err != api.OK || got.W != s[0] || got.H != s[1] || len(got.Bits) != (s[0]+63)/64*s[1] || slices.Max(got.Bits) != 0 {
			t.Errorf("%v: %d, error %d", s, page, err)
		}
	}
	d := doc.New()
	for _, s := range [][2]int{{1<<20 + 1, 1}, {1, 1<<20 + 1}, {1025, 1024}, {3, 349526}, {1 << 32, 1 << 32}, {1 << 31, 1 << 33}, {2, 1 << 63 >> 1}, {-1, -1}, {math.MinInt, math.MinInt}, {math.MinInt, -1}, {math.MaxInt, math.MaxInt}, {1, 0}, {0, 0}} {
		if page, err := d.NewPage(s[0], s[1]); page != 0 || err != api.ErrArea || d.Pages() != 0 {
			t.Errorf("%v: %d, error %d", s, page, err)
		}
	}
}

// TestManyPages: P20.2: up to MaxPages; a size that may not be is told ahead of there being too many.
func TestManyPages(t *testing.T) {
	b := begin(t)
	for i := range api.MaxPages {
		b.newPage(1+i, 2)
		b.set(i, i, i%2, 1)
	}
	b.wantPages("all pages")
	for range 2 {
		if page, err := b.d.NewPage(1, 1); page != 0 || err != api.ErrPages {
			t.Errorf("one more: %d, error %d", page, err)
		}
		if page, err := b.d.NewPage(1, 0); page != 0 || err != api.ErrArea {
			t.Errorf("none: %d, error %d", page, err)
		}
	}
	b.wantPages("behind refused ones")
}

// TestPage: P20.2: pages that there are, and those that there are not.
func TestPage(t *testing.T) {
	b := begin(t)
	for n := range 4 {
		for _, page := range append(farInts(), n, n-1, n+1) {
			got, err := b.d.Page(page)
			want, fault := api.Bitmap{}, api.ErrPlace
			if page >= 0 && page < n {
				want, fault = b.m.pages[page].plain(), api.OK
			}
			if !same(got, want) || err != fault || err != api.OK && got.Bits != nil {
				t.Errorf("page %d of %d: %v, error %d, want %v, %d", page, n, got, err, want, fault)
			}
		}
		b.newPage(60+n, 2)
		b.fill(n, n, 0, 9, 2, 1)
	}
}

// TestSet: P20.3: pixels at all edges; a place that is none is told ahead of a bit that is none.
func TestSet(t *testing.T) {
	b := begin(t)
	b.set(0, 0, 0, 1)
	b.newPage(66, 3)
	b.newPage(1, 6)
	places := []int{math.MinInt, -1 << 32, -1, 0, 1, 2, 3, 63, 64, 65, 66, 1 << 32, math.MaxInt}
	bits := []int{0, 1, 1, 2, -1, math.MinInt, math.MaxInt, 1 << 32}
	for _, page := range []int{math.MinInt, -1, 0, 1, 2, 1 << 32, math.MaxInt} {
		for _, x := range places {
			for _, y := range places {
				for _, bit := range bits {
					b.set(page, x, y, bit)
				}
			}
		}
	}
	b.wantPages("all edges")
	b.set(0, 64, 1, 0)
	b.wantPages("white again")
	for _, c := range []struct{ page, x, y, bit, want int }{
		{0, 66, 0, 2, int(api.ErrPlace)}, {0, 0, 3, -1, int(api.ErrPlace)}, {2, 0, 0, 2, int(api.ErrPlace)}, {0, 65, 2, 2, int(api.ErrDraw)}, {1, 0, 5, -1, int(api.ErrDraw)},
	} {
		if err := b.d.Set(c.page, c.x, c.y, c.bit); int(err) != c.want {
			t.Errorf("%+v: error %d", c, err)
		}
	}
}

// TestFill: P20.3: rectangles of all kinds, and those that may not be.
func TestFill(t *testing.T) {
	dc := dice(4)
	b := begin(t)
	b.fill(0, 0, 0, 1, 1, 1)
	b.newPage(70, 5)
	b.newPage(129, 7)
	for range 3000 {
		b.fill(dc.below(2), dc.far(90), dc.far(6), dc.size(100), dc.size(8), dc.below(2))
		b.wantPages("Fill")
	}
	for _, page := range farInts() {
		for _, n := range farInts() {
			b.fill(page, 0, 0, n, 1, 1)
			b.fill(page, 0, 0, 1, n, 0)
			b.fill(page, n, n, n, n, 1)
			b.fill(page, n, 0, 3, 3, n)
			b.fill(page, 0, n, -1, 3, n)
		}
	}
	b.wantPages("Fill")
	for _, c := range []struct{ page, w, h, bit, want int }{
		{2, -1, 1, 2, int(api.ErrPlace)}, {-1, 1, 1, 1, int(api.ErrPlace)}, {0, -1, 1, 1, int(api.ErrDraw)}, {0, 1, -1, 1, int(api.ErrDraw)}, {0, 1, 1, 2, int(api.ErrDraw)}, {1, 0, 0, -1, int(api.ErrDraw)}, {1, 0, 0, 1, 0},
	} {
		if err := b.d.Fill(c.page, 500, 500, c.w, c.h, c.bit); int(err) != c.want {
			t.Errorf("%+v: error %d", c, err)
		}
	}
}

// TestBlit: P20.3, P20.6 (T2): blits by all operations, with any offsets, from a page onto itself and onto others, are what moving pixels one by one out of a snapshot is.
func TestBlit(t *testing.T) {
	dc := dice(5)
	for n := range 60 {
		b := begin(t)
		for i := range 3 {
			b.newPage(dc.wide(), 1+dc.below(8))
			for range 12 {
				b.fill(i, dc.below(130)-3, dc.below(8), 1+dc.below(9), 1+dc.below(2), 1)
			}
		}
		for range 60 {
			from, to := dc.below(3), dc.below(3)
			if n%2 == 0 {
				to = from
			}
			op := dc.below(5)
			b.blit(from, dc.far(80), dc.far(6), dc.size(100), dc.size(8), to, dc.far(80), dc.far(6), op)
			b.wantPages(fmt.Sprint("operation ", op))
		}
	}
}

// TestBlitRefused: P20.3: pages that there are not are told ahead of a rectangle or an operation that may not be.
func TestBlitRefused(t *testing.T) {
	b := begin(t)
	b.blit(0, 0, 0, 1, 1, 0, 0, 0, 0)
	b.newPage(5, 4)
	b.newPage(9, 3)
	b.fill(0, 1, 1, 3, 2, 1)
	for _, n := range farInts() {
		for op := -1; op <= 5; op++ {
			b.blit(n, 0, 0, 3, 3, 1, 1, 0, op)
			b.blit(1, 0, 0, 3, 3, n, 1, 0, op)
			b.blit(n, 0, 0, n, 3, n, 1, 0, op)
			b.blit(0, 1, 0, n, 3, 1, 2, 0, op)
			b.blit(0, 1, 0, 3, n, 1, 2, 0, op)
			b.blit(0, n, n, n, n, 1, n, n, op)
		}
		b.blit(0, 0, 0, 3, 3, 1, 0, 0, n)
		b.wantPages("Blit")
	}
	for _, c := range []struct{ from, w, h, to, op, want int }{
		{2, -1, 1, 0, 9, int(api.ErrPlace)}, {0, 1, -1, 2, 5, int(api.ErrPlace)}, {-1, 1, 1, 0, 0, int(api.ErrPlace)}, {0, 1, 1, -1, 0, int(api.ErrPlace)},
		{0, -1, 1, 1, 0, int(api.ErrDraw)}, {0, 1, -1, 1, 0, int(api.ErrDraw)}, {0, 1, 1, 1, 5, int(api.ErrDraw)}, {0, 1, 1, 1, -1, int(api.ErrDraw)}, {0, 0, 0, 1, api.OpReplace, 0},
	} {
		if err := b.d.Blit(c.from, 0, 0, c.w, c.h, c.to, 0, 0, c.op); int(err) != c.want {
			t.Errorf("%+v: error %d", c, err)
		}
	}
}
