package plan_test

import (
	"slices"
	"testing"

	"burin/api"
	"burin/bitmap"
	"burin/dict"
	"burin/text"
)

// contents is what a reader finds in segments: of each dictionary, by its number, the symbols; the text regions, and the symbols of each.
type contents struct {
	dicts   map[int]api.Dict
	regions []api.Text
	symbols [][]api.Bitmap
}

func contentsOf(t *testing.T, l []api.Segment) contents {
	t.Helper()
	c := contents{dicts: map[int]api.Dict{}}
	for _, s := range l {
		switch s.Kind {
		case api.SegDict:
			d, err := dict.Decode(s.Data, nil)
			if err != api.OK {
				t.Fatalf("segment %d: error %d", s.Number, err)
			}
			c.dicts[s.Number] = d
		case api.SegText:
			var symbols []api.Bitmap
			for _, ref := range s.Refs {
				symbols = append(symbols, c.dicts[ref].New...)
			}
			r, err := text.Decode(s.Data, symbols)
			if err != api.OK {
				t.Fatalf("segment %d: error %d", s.Number, err)
			}
			c.regions, c.symbols = append(c.regions, r), append(c.symbols, symbols)
		}
	}
	return c
}

// wantDict asks for a dictionary's symbols.
func wantDict(t *testing.T, d api.Dict, template int, symbols ...api.Bitmap) {
	t.Helper()
	if d.Template != template || !slices.EqualFunc(d.New, symbols, bitmap.Equal) || len(d.Export) != len(symbols) || slices.Contains(d.Export, false) {
		t.Fatalf("%v, want %v", d, symbols)
	}
}

// wantInstances asks how many instances each region has.
func wantInstances(t *testing.T, l []api.Segment, counts ...int) {
	t.Helper()
	var got []int
	for _, r := range contentsOf(t, l).regions {
		got = append(got, len(r.L))
	}
	if !slices.Equal(got, counts) {
		t.Fatalf("%v instances, want %v", got, counts)
	}
}

// TestDictionaries: P18.4: classes are sorted by height, by width, by number; all are exported, by the options' template.
func TestDictionaries(t *testing.T) {
	page := raster(
		"##.#.###.##.####",
		"#..#..#..##.....",
		"................",
		"##.##.#.#...#.##")
	other := raster("##.#", "#...")
	for template := range 4 {
		o := api.Options{Mode: api.ModeSymbols, Template: template, Strip: 3}
		l := wantSketch(t, "2:0|1:1|2:1|3:1 0k 2|6:1|1:2|3:2 0|6:2|7:0|", []api.Bitmap{page, other}, o)
		c := contentsOf(t, l)
		wantDict(t, c.dicts[0], template, raster("#"), raster("##", "#."))
		wantDict(t, c.dicts[2], template, raster("##"), raster("####"), raster("#", "#"), raster("##", "##"), raster("###", ".#."))
	}
	// as wide and high as one another: by number, whichever page began them
	a, b, d := raster("##", "#."), raster("##", ".#"), raster(".#", "##")
	l := wantSegments(t, []api.Bitmap{d, b, a, a, b, d}, api.Options{Mode: api.ModeSymbols})
	wantDict(t, contentsOf(t, l).dicts[0], 0, d, b, a)
	l = wantSegments(t, []api.Bitmap{a, b, d, d, b, a}, api.Options{Mode: api.ModeSymbols})
	wantDict(t, contentsOf(t, l).dicts[0], 0, a, b, d)
}

// TestDictionaryCuts: P18.4: a dictionary is filled up to MaxArea pixels; with one row more a new one begins.
func TestDictionaryCuts(t *testing.T) {
	for _, c := range []struct {
		want   string
		frames [][3]int
	}{
		{"1:1|2:1|3:1 1|6:1|7:0|", [][3]int{{1024, 1024, 0}}},
		{"1:1|2:1|3:1 1|6:1|7:0|", [][3]int{{1024, 768, 0}, {512, 512, 0}}},
		{"1:1|2:1|2:1|3:1 1 2|6:1|7:0|", [][3]int{{1024, 768, 0}, {512, 513, 0}}},
		{"1:1|2:1|2:1|3:1 1 2|6:1|7:0|", [][3]int{{1024, 768, 0}, {512, 512, 0}, {4, 4, 0}}},
		{"1:1|2:1|3:1 1|6:1|7:0|", [][3]int{{768, 1024, 0}, {512, 480, 0}, {128, 128, 0}}},
		{"1:1|2:1|2:1|3:1 1 2|6:1|7:0|", [][3]int{{768, 1024, 0}, {512, 480, 0}, {128, 129, 0}}},
		{"1:1|2:1|2:1|2:1|3:1 1 2 3|6:1|7:0|", [][3]int{{1024, 1024, 0}, {1000, 1000, 0}, {900, 900, 0}}},
		{"1:1|2:1|2:1|2:1|3:1 1 2 3|6:1|7:0|", [][3]int{{1024, 1024, 0}, {1000, 1000, 0}, {900, 900, 0}, {100, 100, 0}, {50, 60, 0}, {7, 7, 0}}},
	} {
		page := framed(1024, 1024, c.frames...)
		wantSketch(t, c.want, []api.Bitmap{page}, api.Options{Mode: api.ModeSymbols})
	}
	page := framed(1024, 1024, [][3]int{{1024, 768, 0}, {512, 513, 0}}...)
	l := wantSketch(t, "2:0|2:0|1:1|3:1 0k 1k|6:1|1:2|3:2 0 1|6:2|7:0|", []api.Bitmap{page, page}, api.Options{Mode: api.ModeSymbols})
	wantDict(t, contentsOf(t, l).dicts[0], 0, framed(512, 513, [3]int{512, 513, 0}))
}

// TestFilledDictionary: P18.4: what comes goes to the dictionary that is filled, though there is room in one ahead of it.
func TestFilledDictionary(t *testing.T) {
	m, _ := bitmap.New(1024, 1024)
	frame(m, 0, 0, 1020, 540, 0)
	frame(m, 3, 3, 1000, 500, 0)
	m.Fill(1022, 0, 1, 900, 1)
	l := wantSketch(t, "1:1|2:1|2:1|3:1 1 2|6:1|7:0|", []api.Bitmap{m.Plain()}, api.Options{Mode: api.ModeSymbols})
	c := contentsOf(t, l)
	if len(c.dicts[1].New) != 1 || len(c.dicts[2].New) != 2 {
		t.Errorf("%d and %d symbols", len(c.dicts[1].New), len(c.dicts[2].New))
	}
}

// TestKinds: P18.4: shared classes and each page's own are cut by themselves.
func TestKinds(t *testing.T) {
	half, other := framed(1024, 512, [3]int{1024, 512, 0}), framed(1024, 512, [3]int{1024, 512, 5})
	third, small := framed(1024, 512, [3]int{1024, 512, 9}), framed(1024, 512, [3]int{1000, 500, 0})
	pages := []api.Bitmap{half, other, third, small, half, other, third, raster("#")}
	wantSketch(t, "2:0|2:0|1:1|3:1 0k|6:1|1:2|3:2 0k|6:2|1:3|3:3 1k|6:3|1:4|2:4|3:4 12|6:4|1:5|3:5 0k|6:5|1:6|3:6 0|6:6|1:7|3:7 1|6:7|1:8|2:8|3:8 25|6:8|7:0|", pages, api.Options{Mode: api.ModeSymbols})
}

// dotted is a page of n dots, 512 in a row.
func dotted(n int) *bitmap.Map {
	m, _ := bitmap.New(1024, 1024)
	for i := range n {
		m.Set(i%512*2, i/512*2, 1)
	}
	return m
}

// TestInstanceCuts: P18.5: a region has up to MaxInstances instances.
func TestInstanceCuts(t *testing.T) {
	const most = api.MaxInstances
	o := api.Options{Mode: api.ModeSymbols}
	page := func(n int) []api.Bitmap { return []api.Bitmap{dotted(n).Plain()} }
	wantInstances(t, wantSketch(t, "1:1|2:1|3:1 1|6:1|7:0|", page(most-1), o), most-1)
	wantInstances(t, wantSketch(t, "1:1|2:1|3:1 1|6:1|7:0|", page(most), o), most)
	wantInstances(t, wantSketch(t, "1:1|2:1|3:1 1k|3:1 1|6:1|7:0|", page(most+1), o), most, 1)
	wantInstances(t, wantSketch(t, "1:1|2:1|3:1 1k|3:1 1|6:1|7:0|", page(2*most), o), most, most)
	l := wantSketch(t, "2:0|1:1|3:1 0k|3:1 0k|3:1 0k|6:1|1:2|3:2 0|6:2|7:0|", append(page(2*most+1), raster("#")), o)
	wantInstances(t, l, most, most, 1, 1)
	l = wantSketch(t, "2:0|1:1|3:1 0k|6:1|1:2|3:2 0k|3:2 0|6:2|7:0|", append([]api.Bitmap{raster("#")}, page(most+1)...), api.Options{Mode: api.ModeRefine, Strip: 3})
	wantInstances(t, l, 1, most, 1)
}

// TestNeeds: P18.5: a region refers to the dictionaries of its own pieces alone, and keeps those that later ones refer to.
func TestNeeds(t *testing.T) {
	m := dotted(api.MaxInstances)
	m.Fill(0, 100, 3, 1, 1)
	m.Fill(0, 103, 4, 1, 1)
	pages := []api.Bitmap{m.Plain(), raster("#"), raster("###")}
	// shared: dots, lines of 3; the page's own: the line of 4; those ahead of row 64 are dots
	l := wantSketch(t, "2:0|1:1|2:1|3:1 0k|3:1 0k 2|6:1|1:2|3:2 0k|6:2|1:3|3:3 0|6:3|7:0|", pages, api.Options{Mode: api.ModeSymbols})
	wantInstances(t, l, api.MaxInstances, 2, 1, 1)
	c := contentsOf(t, l)
	if at := []int{c.regions[1].L[0].Symbol, c.regions[1].L[1].Symbol}; !slices.Equal(at, []int{1, 2}) {
		t.Errorf("symbols %v", at)
	}
	m = dotted(api.MaxInstances - 1)
	m.Fill(0, 100, 3, 1, 1)
	m.Fill(0, 103, 4, 1, 1)
	pages = []api.Bitmap{raster("#"), m.Plain(), raster("####")}
	wantSketch(t, "2:0|1:1|3:1 0k|6:1|1:2|2:2|3:2 0k 5|3:2 0k|6:2|1:3|3:3 0|6:3|7:0|", pages, api.Options{Mode: api.ModeSymbols})
}

// TestRegions: P18.5: a region's form, and its instances: of each piece the place, the symbol, and what it looks like, if it differs.
func TestRegions(t *testing.T) {
	full, worn, half := raster("###", "###"), raster("#.#", "###"), raster("#..", "###")
	page := raster(".........", ".###.#.#.", ".###.###.", ".........", ".#.......", ".###.#...")
	for strip := range 4 {
		o := api.Options{Mode: api.ModeRefine, Template: 1, Strip: strip, Tolerance: 0.2}
		l := wantSketch(t, "2:0|1:1|3:1 0k|6:1|1:2|2:2|3:2 0 5|6:2|7:0|", []api.Bitmap{full, page}, o)
		c := contentsOf(t, l)
		want := api.Text{W: 9, H: 6, Op: api.OpOr, Refine: true, Strip: strip, L: []api.Instance{
			{X: 1, Y: 1, Symbol: 0}, {X: 5, Y: 1, Symbol: 0, Differ: true, B: worn}, {X: 1, Y: 4, Symbol: 2}, {X: 5, Y: 5, Symbol: 1},
		}}
		wantDict(t, c.dicts[0], 1, full)
		wantDict(t, c.dicts[5], 1, raster("#"), half)
		wantRegion(t, c.regions[1], want)
		o.Tolerance = 0
		wantRegion(t, contentsOf(t, wantSegments(t, []api.Bitmap{full}, o)).regions[0], api.Text{W: 3, H: 2, Refine: true, Strip: strip, L: make([]api.Instance, 1)})
		o.Mode = api.ModeSymbols
		wantRegion(t, contentsOf(t, wantSegments(t, []api.Bitmap{full}, o)).regions[0], api.Text{W: 3, H: 2, Strip: strip, L: make([]api.Instance, 1)})
	}
}

// wantRegion asks for a region; instances may come in any order of their strips.
func wantRegion(t *testing.T, got, want api.Text) {
	t.Helper()
	l, all := text.Sorted(want), got.L
	got.L, want.L = nil, nil
	same := func(a, b api.Instance) bool {
		return a.X == b.X && a.Y == b.Y && a.Symbol == b.Symbol && a.Differ == b.Differ && a.B.W == b.B.W && a.B.H == b.B.H && slices.Equal(a.B.Bits, b.B.Bits)
	}
	if got.X != want.X || got.Y != want.Y || got.W != want.W || got.H != want.H || got.Op != want.Op || got.Refine != want.Refine || got.Default != want.Default || got.Strip != want.Strip || !slices.EqualFunc(all, l, same) {
		t.Fatalf("%+v of %+v, want %+v of %+v", got, all, want, l)
	}
}

// TestRefinedCuts: P18.5: those that differ have up to MaxArea pixels together in a region; those that don't count for nothing.
func TestRefinedCuts(t *testing.T) {
	first := framed(1024, 1024, [][3]int{{1024, 768, 0}, {512, 512, 0}, {300, 300, 0}, {4, 4, 0}}...)
	rows := framed(1024, 1024, [][3]int{{1024, 768, 0}, {512, 513, 0}, {300, 300, 0}, {4, 4, 0}}...)
	o := api.Options{Mode: api.ModeRefine, Tolerance: inf}
	for _, c := range []struct {
		first  api.Bitmap
		frames [][3]int
		counts []int
	}{
		{first, [][3]int{{1024, 768, 1}, {512, 512, 1}}, []int{4, 2}},
		{first, [][3]int{{1024, 768, 1}, {512, 512, 1}, {300, 300, 0}, {4, 4, 0}}, []int{4, 4}},
		{first, [][3]int{{1024, 768, 1}, {512, 512, 1}, {300, 300, 0}, {4, 4, 1}}, []int{4, 3, 1}},
		{first, [][3]int{{1024, 768, 1}, {512, 512, 1}, {300, 300, 1}, {4, 4, 1}}, []int{4, 2, 2}},
		{first, [][3]int{{1024, 768, 1}, {512, 512, 0}, {300, 300, 1}, {4, 4, 1}}, []int{4, 4}},
		{first, [][3]int{{1024, 768, 0}, {512, 512, 0}, {300, 300, 0}, {4, 4, 0}}, []int{4, 4}},
		{rows, [][3]int{{1024, 768, 1}, {512, 513, 1}}, []int{4, 1, 1}},
		{rows, [][3]int{{1024, 768, 1}, {512, 513, 0}, {300, 300, 0}, {4, 4, 1}}, []int{4, 4}},
		{rows, [][3]int{{1024, 768, 1}, {512, 513, 1}, {300, 300, 1}, {4, 4, 1}}, []int{4, 1, 3}},
	} {
		pages := []api.Bitmap{c.first, framed(1024, 1024, c.frames...)}
		wantInstances(t, wantSegments(t, pages, o), c.counts...)
	}
}

// TestBothCuts: P18.5: where a region ends for one reason, what counts for the other begins anew, too.
func TestBothCuts(t *testing.T) {
	first := framed(1024, 1024, [][3]int{{1024, 1024, 0}, {4, 4, 0}}...)
	page := func(dots ...int) []api.Bitmap {
		m, _ := bitmap.New(1024, 1024)
		frame(m, 0, 0, 1024, 1024, 1)
		y := 3
		for _, n := range dots { // rows of dots; behind each few that many a frame that differs
			for i := range n {
				m.Set(3+i%500*2, y+i/500*2, 1)
			}
			y += n/500*2 + 4
			frame(m, 3, y, 4, 4, 1)
			y += 6
		}
		return []api.Bitmap{first, m.Plain()}
	}
	const most = api.MaxInstances
	o := api.Options{Mode: api.ModeRefine, Tolerance: inf}
	wantInstances(t, wantSegments(t, page(most), o), 2, most, 2)
	wantInstances(t, wantSegments(t, page(most-1), o), 2, most, 1)
	wantInstances(t, wantSegments(t, page(most-2), o), 2, most-1, 1)
	wantInstances(t, wantSegments(t, page(10, most-1), o), 2, 11, most, 1)
	wantInstances(t, wantSegments(t, page(10, most-2), o), 2, 11, most)
}

// TestNested: P18.4, P18.5: drawn frames, one within the other, against what the chapter's words tell.
func TestNested(t *testing.T) {
	d := dice(3)
	for range 6 {
		var pages []api.Bitmap
		sizes := [][3]int{{1024, 1024, 0}}
		for range 5 {
			last := sizes[len(sizes)-1]
			sizes = append(sizes, [3]int{last[0] - 5 - d.below(150), last[1] - 5 - d.below(150), 0})
		}
		for range 2 {
			for i := range sizes {
				sizes[i][2] = d.below(3) * d.below(2)
			}
			pages = append(pages, framed(1024, 1024, sizes...))
		}
		wantSegments(t, pages, api.Options{Mode: api.ModeRefine, Tolerance: []float64{0, 1e-6, inf}[d.below(3)]})
	}
}
