package plan_test

import (
	"math"
	"slices"
	"sync"
	"testing"

	"burin/api"
	"burin/bitmap"
	"burin/comps"
	"burin/file"
	"burin/page"
	"burin/plan"
)

// wantPages asks for the pages of segments that are written, in both organisations (T1).
func wantPages(t *testing.T, l []api.Segment, pages []api.Bitmap) {
	t.Helper()
	for _, random := range []bool{false, true} {
		f, err := file.Write(l, random)
		if err != api.OK {
			t.Fatalf("Write(%s): error %d", sketch(l), err)
		}
		got, held, err := file.Read(f)
		if err != api.OK || !slices.EqualFunc(got, pages, bitmap.Equal) {
			t.Fatalf("Read of %s: %d pages, error %d, want %d pages", sketch(l), len(got), err, len(pages))
		}
		if last := held[len(held)-1]; len(last.Dicts) > 0 {
			t.Fatalf("%s: dictionaries %v are held to the end", sketch(l), last.Dicts)
		}
	}
}

// wantOneHome asks that each class's bitmap stands in just one dictionary, once.
func wantOneHome(t *testing.T, c contents, reps []api.Bitmap) {
	t.Helper()
	left := slices.Clone(reps)
	for _, d := range c.dicts {
		for _, b := range d.New {
			at := slices.IndexFunc(left, func(rep api.Bitmap) bool { return bitmap.Equal(b, rep) })
			if at < 0 {
				t.Fatalf("%v is in two dictionaries, or is none of the classes", b)
			}
			left = slices.Delete(left, at, at+1)
		}
	}
	if len(left) > 0 {
		t.Fatalf("%d classes are in no dictionary", len(left))
	}
}

// wantPieces asks that the regions' instances look as the pieces do, each at its place, and that one differs just if it is unlike its symbol.
func wantPieces(t *testing.T, c contents, pieces [][]api.Piece) {
	t.Helper()
	left := slices.Concat(pieces...)
	for i, r := range c.regions {
		for _, x := range r.L {
			look := c.symbols[i][x.Symbol]
			if x.Differ {
				if bitmap.Equal(look, x.B) || !r.Refine {
					t.Fatalf("%+v differs from %+v", x, look)
				}
				look = x.B
			}
			at := slices.IndexFunc(left, func(p api.Piece) bool { return p.X == x.X && p.Y == x.Y && bitmap.Equal(p.B, look) })
			if at < 0 {
				t.Fatalf("%+v is none of the pieces", x)
			}
			left = slices.Delete(left, at, at+1)
		}
	}
	if len(left) > 0 {
		t.Fatalf("%d pieces are no instances", len(left))
	}
}

// TestFollows: P18.6 (T5): each class is in one dictionary, once; each piece is an instance; none differs in ModeSymbols; a file of the segments is read as the pages.
func TestFollows(t *testing.T) {
	d := dice(4)
	for range 300 {
		pages, o := d.pages(), d.options()
		l, err := plan.Segments(pages, o)
		if err != api.OK {
			t.Fatalf("error %d", err)
		}
		wantPages(t, l, pages)
		if o.Mode < api.ModeSymbols {
			continue
		}
		m, pieces, _ := plan.Symbols(pages, o)
		c := contentsOf(t, l)
		wantOneHome(t, c, m.Reps)
		wantPieces(t, c, pieces)
		for _, r := range c.regions {
			if o.Mode == api.ModeSymbols && slices.ContainsFunc(r.L, func(x api.Instance) bool { return x.Differ }) {
				t.Fatalf("%+v: an instance differs", o)
			}
		}
	}
}

// TestPiecesAreComps: P18.2: the pieces of a page are those that comps tells.
func TestPiecesAreComps(t *testing.T) {
	d := dice(5)
	for range 100 {
		pages, o := d.pages(), d.options()
		_, pieces, err := plan.Symbols(pages, o)
		if err != api.OK || len(pieces) != len(pages) {
			t.Fatalf("%d pages, error %d, want %d", len(pieces), err, len(pages))
		}
		for i, b := range pages {
			if back, _ := comps.Back(pieces[i], b.W, b.H); !bitmap.Equal(back, b) {
				t.Fatalf("page %d: %v", i, pieces[i])
			}
		}
	}
}

// TestManyDots: P18.6: a document of as many pieces as pages can have is a file's, in both organisations.
func TestManyDots(t *testing.T) {
	pages := []api.Bitmap{dotted(1 << 18).Plain(), dotted(100000).Plain()}
	for _, mode := range []int{api.ModeSymbols, api.ModeRefine} {
		l := wantSegments(t, pages, api.Options{Mode: mode})
		if len(l) != 1+2+16+2+7+1 {
			t.Errorf("%d segments", len(l))
		}
		wantPages(t, l, pages)
	}
}

// TestManyFrames: P18.6: documents of several dictionaries and regions a page are a file's, too.
func TestManyFrames(t *testing.T) {
	var pages []api.Bitmap
	for more := range 3 {
		pages = append(pages, framed(600, 600, [3]int{600, 600, more}, [3]int{590, 590, 1 - more&1}, [3]int{500, 570, more}, [3]int{490, 480, 2}))
		big, _ := bitmap.New(1024, 1024)
		frame(big, 0, 0, 1024, 1024, more)
		frame(big, 3, 3, 1000, 1000, 0)
		frame(big, 6, 6, 900, 900, 2*more)
		pages = append(pages, big.Plain())
	}
	for _, tolerance := range []float64{0, inf} {
		l := wantSegments(t, pages, api.Options{Mode: api.ModeRefine, Template: 3, Tolerance: tolerance})
		wantPages(t, l, pages)
	}
}

// TestPagesStay: P18.7 (R2): pages stay as they are, behind their words and behind the list, too, and nothing is read there.
func TestPagesStay(t *testing.T) {
	d := dice(6)
	for range 60 {
		pages, o := d.pages(), d.options()
		long := make([]api.Bitmap, 0, len(pages)+2)
		var kept [][]uint64
		for _, b := range pages {
			words := append(slices.Clone(b.Bits), ^uint64(0), 7)
			kept = append(kept, slices.Clone(words))
			long = append(long, api.Bitmap{W: b.W, H: b.H, Bits: words[:len(b.Bits)]})
		}
		behind := append(long, api.Bitmap{W: -3, H: 5})[len(long):]
		wantSegments(t, long, o)
		wantSymbols(t, long, o)
		if behind[0].W != -3 || behind[0].H != 5 || behind[0].Bits != nil {
			t.Fatal("what lies behind the list was changed")
		}
		for i, b := range long {
			if !bitmap.Equal(b, pages[i]) || !slices.Equal(b.Bits[:len(b.Bits)+2], kept[i]) {
				t.Fatalf("page %d was changed", i)
			}
		}
	}
}

func cloned(pages []api.Bitmap) []api.Bitmap {
	var l []api.Bitmap
	for _, b := range pages {
		l = append(l, api.Bitmap{W: b.W, H: b.H, Bits: slices.Clone(b.Bits)})
	}
	return l
}

func flip(words []uint64) {
	for i := range words {
		words[i] = ^words[i]
	}
}

// spoil writes over all of an answer, behind the lengths, too.
func spoil(l []api.Segment, m api.Matching, pieces [][]api.Piece) {
	for _, s := range l {
		clear(s.Refs[:cap(s.Refs)])
		clear(s.Keep[:cap(s.Keep)])
		clear(s.Data[:cap(s.Data)])
	}
	for _, b := range m.Reps {
		flip(b.Bits[:cap(b.Bits)])
	}
	for _, on := range pieces {
		for _, p := range on {
			flip(p.B.Bits[:cap(p.B.Bits)])
		}
		clear(on[:cap(on)])
	}
	clear(l[:cap(l)])
	clear(m.Class[:cap(m.Class)])
	clear(m.Reps[:cap(m.Reps)])
	clear(pieces[:cap(pieces)])
}

// TestAnswerStays: P18.7 (R2): what was told stays, whatever becomes of the pages; the next answer is new, and so are pages and all else.
func TestAnswerStays(t *testing.T) {
	d := dice(7)
	for range 60 {
		pages, o := d.pages(), d.options()
		handed := cloned(pages)
		want, _ := planned(pages, o)
		wantM, wantOn, _ := classified(pages, o)
		l, _ := plan.Segments(handed, o)
		m, pieces, _ := plan.Symbols(handed, o)
		for _, b := range handed {
			flip(b.Bits)
		}
		clear(handed)
		if !slices.EqualFunc(l, want, sameSegment) || !slices.Equal(m.Class, wantM.Class) || !slices.EqualFunc(m.Reps, wantM.Reps, bitmap.Equal) || !slices.EqualFunc(pieces, wantOn, samePieces) {
			t.Fatal("an answer changed with the pages")
		}
		handed = cloned(pages)
		l, _ = plan.Segments(handed, o)
		m, pieces, _ = plan.Symbols(handed, o)
		spoil(l, m, pieces)
		if !slices.EqualFunc(handed, pages, bitmap.Equal) {
			t.Fatal("pages changed with an answer")
		}
		wantSegments(t, handed, o)
		wantSymbols(t, handed, o)
	}
}

// TestOwnMemory: P18.7 (R2): no two lists of an answer share memory, behind their lengths neither; though pages do, or are one and the same.
func TestOwnMemory(t *testing.T) {
	b := raster("#.##.###.#", "..........", "#.##.###.#", "..........")
	pages := []api.Bitmap{b, b, {W: 10, H: 1, Bits: b.Bits[:1]}, {W: 10, H: 3, Bits: b.Bits[:3]}}
	for mode := range 4 {
		o := api.Options{Mode: mode, Stripe: 1}
		m, pieces := wantSymbols(t, pages, o)
		var lists [][]uint64
		for _, rep := range m.Reps {
			lists = append(lists, rep.Bits)
		}
		for _, on := range pieces {
			for _, p := range on {
				lists = append(lists, p.B.Bits)
			}
		}
		wantApart(t, lists, 0)
		l := wantSegments(t, pages, o)
		var data [][]byte
		var refs [][]int
		var keep [][]bool
		for _, s := range l {
			data, refs, keep = append(data, s.Data), append(refs, s.Refs), append(keep, s.Keep)
		}
		wantApart(t, data, 0xa5)
		wantApart(t, refs, -7)
		wantApart(t, keep, true)
		wantApart(t, pieces, api.Piece{})
	}
}

// wantApart asks that what is written to one list, up to its end in memory, is seen in no other one.
func wantApart[T any](t *testing.T, lists [][]T, sign T) {
	t.Helper()
	for i, l := range lists {
		for k, other := range lists {
			if i != k && cap(l) > 0 && cap(other) > 0 && overlap(l[:cap(l)], other[:cap(other)]) {
				t.Fatalf("lists %d and %d share memory", i, k)
			}
		}
	}
	for _, l := range lists {
		for i := range l {
			l[i] = sign
		}
	}
}

func overlap[T any](a, b []T) bool {
	for i := range a {
		if &a[i] == &b[0] {
			return true
		}
	}
	return false
}

// TestShared: P18.7 (R2): what is handed in is only read, by several at the same time, too (go test -race tells).
func TestShared(t *testing.T) {
	d := dice(8)
	pages := []api.Bitmap{d.scattered(60, 30, 4), d.scattered(60, 30, 4), raster("##")}
	var all sync.WaitGroup
	for mode := range 4 {
		o := api.Options{Mode: mode, Stripe: 3, Tolerance: 0.3}
		want, _ := planned(pages, o)
		for range 3 {
			all.Go(func() {
				l, _ := plan.Segments(pages, o)
				m, _, _ := plan.Symbols(pages, o)
				if !slices.EqualFunc(l, want, sameSegment) || len(m.Reps) == 0 {
					t.Error("other answers")
				}
			})
		}
	}
	all.Wait()
}

// wildBitmap is of any numbers; few of them may be.
func (d *dice) wildBitmap() api.Bitmap {
	one := func() int { return farInts()[d.below(len(farInts()))] }
	b := api.Bitmap{W: one(), H: one(), Bits: make([]uint64, d.below(6))}
	for i := range b.Bits {
		b.Bits[i] = uint64(one()) << d.below(64)
	}
	return b
}

// wildOptions are of any numbers; some of them may be.
func (d *dice) wildOptions() api.Options {
	o := d.options()
	one := func() int { return farInts()[d.below(len(farInts()))] }
	switch d.below(8) {
	case 0:
		o.Mode = one()
	case 1:
		o.Template = one()
	case 2:
		o.Strip = one()
	case 3:
		o.Stripe = one()
	case 4:
		o.Tolerance = math.Float64frombits(d.word())
	case 5:
		o = api.Options{Mode: one(), Template: one(), Strip: one(), Stripe: one(), Tolerance: float64(one())}
	}
	return o
}

func mayBe(o api.Options) bool {
	few := func(n int) bool { return n == 0 || n == 1 || n == 2 || n == 3 }
	return few(o.Mode) && few(o.Template) && few(o.Strip) && !(o.Stripe < 0) && !(o.Stripe > 1048576) && o.Tolerance >= 0
}

// TestNoPanic: P18.7 (R3): calls end, whatever is handed in; beside an error stands nothing; of several errors the first is told.
func TestNoPanic(t *testing.T) {
	d := dice(9)
	for range 4000 {
		var pages []api.Bitmap
		if d.below(4) == 0 {
			pages = d.pages()
		}
		for range d.below(3) {
			pages = append(pages, d.wildBitmap())
		}
		if d.below(8) == 0 {
			pages = append(pages, make([]api.Bitmap, 60+d.below(10))...)
		}
		o := d.wildOptions()
		wantCheckOnly(t, o)
		switch {
		case !mayBe(o):
			wantRefused(t, pages, o, api.ErrOption)
		case len(pages) > 64:
			wantRefused(t, pages, o, api.ErrPages)
		case slices.ContainsFunc(pages, func(b api.Bitmap) bool { return !bitmap.Check(b) }):
			wantRefused(t, pages, o, api.ErrPageForm)
		default:
			wantSymbols(t, pages, o)
			wantSegments(t, pages, o)
		}
	}
}

func wantCheckOnly(t *testing.T, o api.Options) {
	t.Helper()
	if plan.Check(o) != mayBe(o) {
		t.Fatalf("Check(%+v): not %v", o, mayBe(o))
	}
}

// TestSheets: P18.3: what the segments of pages say, taken apart.
func TestSheets(t *testing.T) {
	b := raster("##.", "...", "..#", "#..", "#..")
	for mode := range 4 {
		l := wantSegments(t, []api.Bitmap{b}, api.Options{Mode: mode, Template: 2, Stripe: 3})
		s, err := page.DecodeSheet(l[0].Data)
		want := api.Sheet{W: 3, H: 5}
		if mode < api.ModeSymbols {
			want.Stripe = 3
			r, _ := page.DecodeRegion(l[3].Data)
			if r.X != 0 || r.Y != 3 || r.Op != api.OpReplace || r.Template != 2 || r.Skip != (mode == api.ModeSkip) || !bitmap.Equal(r.B, raster("#..", "#..")) {
				t.Errorf("mode %d: %+v", mode, r)
			}
		}
		if s != want || err != api.OK {
			t.Errorf("mode %d: %+v, error %d", mode, s, err)
		}
	}
}
