package plan_test

import (
	"math"
	"slices"
	"testing"

	"burin/api"
	"burin/bitmap"
	"burin/plan"
)

// wantCheck asks whether options may be; if not, both others refuse them, ahead of all else.
func wantCheck(t *testing.T, o api.Options, want bool) {
	t.Helper()
	if plan.Check(o) != want {
		t.Fatalf("Check(%+v): not %v", o, want)
	}
	if !want {
		wantRefused(t, nil, o, api.ErrOption)
		wantRefused(t, make([]api.Bitmap, api.MaxPages+1), o, api.ErrOption)
		wantRefused(t, []api.Bitmap{raster("#"), {}}, o, api.ErrOption)
		return
	}
	wantSketch(t, "7:0|", nil, o)
	wantSymbols(t, nil, o)
}

// TestCheck: P18.1: each option at its ends, with the others as they may be.
func TestCheck(t *testing.T) {
	for mode := range 4 {
		for _, random := range []bool{false, true} {
			o := api.Options{Mode: mode, Template: 3, Strip: 3, Stripe: api.MaxArea, Tolerance: inf, Random: random}
			wantCheck(t, o, true)
			wantCheck(t, api.Options{Mode: mode, Random: random}, true)
			for _, n := range farInts() {
				few := 0 <= n && n <= 3
				o.Mode = n
				wantCheck(t, o, few)
				o.Mode = mode
				o.Template = n
				wantCheck(t, o, few)
				o.Template = 3
				o.Strip = n
				wantCheck(t, o, few)
				o.Strip = 3
				o.Stripe = n
				wantCheck(t, o, 0 <= n && n <= api.MaxArea)
				o.Stripe = api.MaxArea
			}
			for _, x := range wrongTolerances() {
				wantCheck(t, api.Options{Mode: mode, Tolerance: x}, false)
			}
			for _, x := range []float64{0, minus, 5e-324, 0.5, 1, 2, math.MaxFloat64, inf} {
				wantCheck(t, api.Options{Mode: mode, Tolerance: x}, true)
			}
		}
	}
}

// TestPages: P18.2, P18.3: as many as MaxPages pages may be; one more is refused, ahead of one that may not be.
func TestPages(t *testing.T) {
	all := slices.Repeat([]api.Bitmap{raster("#.#")}, api.MaxPages+1)
	for mode := range 4 {
		o := api.Options{Mode: mode}
		wantSegments(t, all[:api.MaxPages], o)
		wantSymbols(t, all[:api.MaxPages], o)
		wantRefused(t, all, o, api.ErrPages)
		wantRefused(t, make([]api.Bitmap, api.MaxPages+1), o, api.ErrPages)
		wantRefused(t, make([]api.Bitmap, api.MaxPages), o, api.ErrPageForm)
	}
}

// TestWrongPages: P18.2, P18.3: a page that may not be is refused, wherever it stands, in all modes.
func TestWrongPages(t *testing.T) {
	good := []api.Bitmap{raster("#"), raster("..", "##")}
	for _, b := range wrongBitmaps() {
		for at := range len(good) + 1 {
			for mode := range 4 {
				wantRefused(t, slices.Insert(slices.Clone(good), at, b), api.Options{Mode: mode, Stripe: 1}, api.ErrPageForm)
			}
		}
	}
}

// TestSymbols: P18.2: pieces page by page, classes of all pages together; the tolerance counts in ModeRefine alone.
func TestSymbols(t *testing.T) {
	pages := []api.Bitmap{raster("###.###.#", "###.#.#.."), raster("..", ".."), raster("#", "#", ".", "#"), raster("###", "..#")}
	for mode, class := range [][]int{{0, 1, 2, 3, 2, 4}, {0, 1, 2, 3, 2, 4}, {0, 1, 2, 3, 2, 4}, {0, 0, 1, 2, 1, 3}} {
		m, pieces := wantSymbols(t, pages, api.Options{Mode: mode, Tolerance: 0.2})
		if !slices.Equal(m.Class, class) || len(pieces) != 4 || len(pieces[0]) != 3 || len(pieces[1]) != 0 || len(pieces[2]) != 2 || len(pieces[3]) != 1 {
			t.Errorf("mode %d: %v, %v", mode, m.Class, pieces)
		}
		if !slices.Equal([]int{pieces[0][1].X, pieces[0][1].Y, pieces[2][1].X, pieces[2][1].Y}, []int{4, 0, 0, 3}) {
			t.Errorf("mode %d: %v", mode, pieces)
		}
	}
	for tolerance, classes := range map[float64]int{0: 5, minus: 5, 0.16: 5, 0.17: 4, 0.34: 3, inf: 3} {
		m, _ := wantSymbols(t, pages, api.Options{Mode: api.ModeRefine, Tolerance: tolerance})
		if len(m.Reps) != classes {
			t.Errorf("tolerance %v: %d classes", tolerance, len(m.Reps))
		}
	}
}

// counted is a page of n pieces, no two alike, if n is at most 8192: a row that is longer or shorter, and the bits of a number below it.
func counted(n int) api.Bitmap {
	m, _ := bitmap.New(1000, 1000)
	for i := range n {
		x, y := i%31*32, i/31*3
		m.Fill(x, y, 10+i>>9, 1, 1)
		for k := range 9 {
			m.Set(x+k, y+1, i>>k&1)
		}
	}
	return m.Plain()
}

// TestTooMany: P18.2, P18.3: more than MaxSymbols classes are refused in symbol modes, and by Symbols in all; as many may be.
func TestTooMany(t *testing.T) {
	most, more := counted(api.MaxSymbols), counted(api.MaxSymbols+1)
	dot := raster("#")
	for mode := range 4 {
		o := api.Options{Mode: mode}
		wantSymbols(t, []api.Bitmap{most, most}, o)
		wantNoSymbols(t, []api.Bitmap{more}, o, api.ErrTooBig)
		wantNoSymbols(t, []api.Bitmap{most, dot}, o, api.ErrTooBig)
		if mode >= api.ModeSymbols {
			wantRefused(t, []api.Bitmap{more}, o, api.ErrTooBig)
			wantRefused(t, []api.Bitmap{most, dot}, o, api.ErrTooBig)
			wantRefused(t, []api.Bitmap{most, dot, {}}, o, api.ErrPageForm)
		} else {
			wantSketch(t, "1:1|4:1|6:1|1:2|4:2|6:2|7:0|", []api.Bitmap{more, dot}, o)
		}
	}
	wantSketch(t, "1:1|2:1|3:1 1|6:1|7:0|", []api.Bitmap{most}, api.Options{Mode: api.ModeSymbols})
	wantSketch(t, "1:1|2:1|3:1 1|6:1|7:0|", []api.Bitmap{more}, api.Options{Mode: api.ModeRefine, Tolerance: 1})
	wantRefused(t, []api.Bitmap{more}, api.Options{Mode: api.ModeSymbols, Tolerance: 1}, api.ErrTooBig)
}

// TestExamples: the chapter's examples.
func TestExamples(t *testing.T) {
	white, dot := raster("..", ".."), raster(".#.")
	for mode := range 4 {
		wantSketch(t, "7:0|", nil, api.Options{Mode: mode})
		wantSketch(t, "7:0|", []api.Bitmap{}, api.Options{Mode: mode, Stripe: 3})
	}
	for _, mode := range []int{api.ModeSymbols, api.ModeRefine} {
		wantSketch(t, "1:1|6:1|7:0|", []api.Bitmap{white}, api.Options{Mode: mode, Stripe: 1})
	}
	wantSketch(t, "2:0|1:1|3:1 0k|6:1|1:2|3:2 0|6:2|7:0|", []api.Bitmap{dot, dot}, api.Options{Mode: api.ModeSymbols})
}

// TestRasters: P18.3: generic modes, with stripes and without, of several pages.
func TestRasters(t *testing.T) {
	d := dice(1)
	pages := []api.Bitmap{d.scattered(70, 9, 3), raster("#"), d.scattered(3, 40, 2)}
	for template := range 4 {
		for _, mode := range []int{api.ModeGeneric, api.ModeSkip} {
			o := api.Options{Mode: mode, Template: template, Strip: 2, Tolerance: 0.5}
			wantSketch(t, "1:1|4:1|6:1|1:2|4:2|6:2|1:3|4:3|6:3|7:0|", pages, o)
			o.Stripe = 4
			l := wantSketch(t, "1:1|4:1|5:1|4:1|5:1|4:1|5:1|6:1|1:2|4:2|5:2|6:2|"+
				"1:3|4:3|5:3|4:3|5:3|4:3|5:3|4:3|5:3|4:3|5:3|4:3|5:3|4:3|5:3|4:3|5:3|4:3|5:3|4:3|5:3|6:3|7:0|", pages, o)
			if !slices.Equal(l[0].Data, []byte{70, 9, 0, 4}) || !slices.Equal(l[2].Data, []byte{3}) || !slices.Equal(l[6].Data, []byte{8}) || !slices.Equal(l[10].Data, []byte{0}) {
				t.Errorf("%v", l)
			}
		}
	}
}

// TestStripes: P18.3: stripes are the least multiple with which a page has at most 16 of them.
func TestStripes(t *testing.T) {
	for height := 1; height <= 70; height++ {
		b := blank(2, height)
		for stripe := range 75 {
			wantSegments(t, []api.Bitmap{b}, api.Options{Template: 3, Stripe: stripe})
		}
	}
	for _, c := range []struct{ height, stripe, want, stripes int }{
		{16, 1, 1, 16}, {17, 1, 2, 9}, {32, 1, 2, 16}, {33, 1, 3, 11}, {33, 2, 4, 9}, {48, 2, 4, 12}, {64, 3, 6, 11}, {5, 9, 9, 1}, {5, 5, 5, 1}, {6, 5, 5, 2},
		{1 << 20, 1, 1 << 16, 16}, {1<<20 - 16, 1, 1<<16 - 1, 16}, {1 << 20, 1<<16 - 1, 1<<17 - 2, 9}, {1 << 20, 1 << 20, 1 << 20, 1}, {1, 1 << 20, 1 << 20, 1},
	} {
		l := wantSegments(t, []api.Bitmap{blank(1, c.height)}, api.Options{Template: 3, Stripe: c.stripe})
		if sheet := slices.Concat([]byte{1}, varOf(c.height), []byte{0}, varOf(c.want)); !slices.Equal(l[0].Data, sheet) || len(l) != 2*c.stripes+3 {
			t.Errorf("%d rows, multiples of %d: %v, %d segments", c.height, c.stripe, l[0].Data, len(l))
		}
	}
}

// TestOwners: P18.3: a class is shared, if pieces of two pages have it; of one page's, twice or not, it is that page's own. Stripes are of generic modes alone.
func TestOwners(t *testing.T) {
	for _, c := range []struct {
		want  string
		pages []api.Bitmap
	}{
		{"1:1|2:1|3:1 1|6:1|7:0|", []api.Bitmap{raster("#.#.#")}},
		{"1:1|2:1|3:1 1|6:1|1:2|2:2|3:2 5|6:2|7:0|", []api.Bitmap{raster("#.#"), raster("##")}},
		{"1:1|6:1|1:2|2:2|3:2 3|6:2|7:0|", []api.Bitmap{raster("."), raster("##")}},
		{"2:0|1:1|3:1 0k|6:1|1:2|6:2|1:3|3:3 0|6:3|7:0|", []api.Bitmap{raster("##"), raster(".."), raster("##")}},
		{"2:0|1:1|2:1|3:1 0k 2|6:1|1:2|2:2|3:2 6|6:2|1:3|2:3|3:3 0 10|6:3|7:0|", []api.Bitmap{raster("#.##"), raster("###"), raster("#.####")}},
		{"2:0|1:1|3:1 0k|6:1|1:2|3:2 0k|6:2|1:3|3:3 0|6:3|7:0|", []api.Bitmap{raster("#.##"), raster("#.#"), raster("##")}},
	} {
		for _, mode := range []int{api.ModeSymbols, api.ModeRefine} {
			wantSketch(t, c.want, c.pages, api.Options{Mode: mode, Strip: 1, Template: 2, Stripe: 1})
		}
	}
	// near ones have one class in ModeRefine: that of the page ahead is no page's own then
	pages := []api.Bitmap{raster("###", "###"), raster("#.#", "###")}
	wantSketch(t, "1:1|2:1|3:1 1|6:1|1:2|2:2|3:2 5|6:2|7:0|", pages, api.Options{Mode: api.ModeSymbols, Tolerance: 0.5})
	wantSketch(t, "1:1|2:1|3:1 1|6:1|1:2|2:2|3:2 5|6:2|7:0|", pages, api.Options{Mode: api.ModeRefine})
	wantSketch(t, "2:0|1:1|3:1 0k|6:1|1:2|3:2 0|6:2|7:0|", pages, api.Options{Mode: api.ModeRefine, Tolerance: 0.5})
}

// TestDrawn: P18.2 to P18.5: drawn documents, against what the chapter's words tell.
func TestDrawn(t *testing.T) {
	d := dice(2)
	for range 600 {
		pages, o := d.pages(), d.options()
		wantSymbols(t, pages, o)
		wantSegments(t, pages, o)
	}
}
