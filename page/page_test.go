package page_test

import (
	"encoding/binary"
	"math"
	"runtime"
	"slices"
	"testing"

	"burin/api"
	"burin/generic"
	"burin/page"
)

// TestExamples: P15.1, P15.5: the chapter's examples.
func TestExamples(t *testing.T) {
	wantSheet(t, api.Sheet{W: 3, H: 2, Default: 1}, []byte{3, 2, 1, 0})
	wantNoSheet(t, []byte{0, 2, 1, 0}, api.ErrPageForm)
	wantNoSheet(t, []byte{0x80, 0x80, 0x80, 1, 1, 0, 0}, api.ErrTooBig)
	p := newPage(t, api.Sheet{W: 1, H: 5, Stripe: 2})
	wantStripe(t, p, 2, api.ErrPageOrder, 0)
	wantStripe(t, p, 1, api.OK, 2)
	wantStripe(t, p, 3, api.OK, 4)
	wantStripe(t, p, 4, api.OK, 5)
	wantEnd(t, p, blank(1, 5))
}

// TestSheets: P15.1: numbers up to their edges.
func TestSheets(t *testing.T) {
	wantSheet(t, api.Sheet{W: 1, H: 1}, []byte{1, 1, 0, 0})
	wantSheet(t, api.Sheet{W: 300, H: 128, Default: 1, Stripe: 129}, []byte{0xac, 2, 0x80, 1, 1, 0x81, 1})
	wantSheet(t, api.Sheet{W: 1, H: 1 << 20, Stripe: 1 << 20}, []byte{1, 0x80, 0x80, 0x40, 0, 0x80, 0x80, 0x40})
	for _, n := range []int{1, 2, 127, 128, 1<<14 - 1, 1 << 14, 1<<20 - 1, 1 << 20} {
		for bit := range 2 {
			for _, s := range []api.Sheet{{W: n, H: 1}, {W: 1, H: n}, {W: 1, H: 1, Stripe: n}, {W: n, H: api.MaxArea / n, Stripe: api.MaxArea - n}} {
				s.Default = bit
				wantSheet(t, s, sheetBytes(s))
				newPage(t, s)
			}
		}
	}
}

// TestSheetRefused: P15.1, P15.3: sheets that may not be, of which no page is made either.
func TestSheetRefused(t *testing.T) {
	for _, s := range wrongSizes() {
		wantSheetRefused(t, api.Sheet{W: s[0], H: s[1]})
	}
	for _, n := range append(farInts(), -2, -1, 2, 3, 255, 256, 257) {
		wantSheetRefused(t, api.Sheet{W: 1, H: 1, Default: n})
	}
	for _, n := range []int{math.MinInt, -1 << 32, -1, 1<<20 + 1, 1 << 21, 1 << 32, math.MaxInt} {
		wantSheetRefused(t, api.Sheet{W: 1, H: 1, Stripe: n})
	}
}

// manyGroups are bytes of which no Var is: too long, above 64 bits, cut off.
func manyGroups() [][]byte {
	eleven := append(slices.Repeat([]byte{0x80}, 10), 1)
	above := append(slices.Repeat([]byte{0xff}, 9), 2)
	return [][]byte{{0x80, 0}, {0x81, 0}, {0x81, 0x80, 0}, {0xff, 0xff, 0}, eleven, above, {}, {0x80}, {0x81}, {0xff, 0x80}, slices.Repeat([]byte{0xff}, 30)}
}

// TestVars: P15.1, P15.2: where a Var may not be, or lacks: at each place, whatever stands behind it.
func TestVars(t *testing.T) {
	for _, wrong := range manyGroups() {
		isCut := len(wrong) == 0 || wrong[len(wrong)-1] >= 0x80
		for _, ahead := range [][]byte{{}, {9}, {9, 9, 1}} {
			f := slices.Concat(ahead, wrong)
			wantNoSheet(t, f, api.ErrPageForm)
			if !isCut {
				wantNoSheet(t, append(f, 1, 1, 1, 1), api.ErrPageForm)
			}
		}
		for k := range 4 {
			f := slices.Concat([]byte{9, 9, 9, 9}[:k], wrong)
			wantNoRegion(t, f, api.ErrPageForm)
			if !isCut {
				wantNoRegion(t, append(f, 1, 1, 1, 1, 1), api.ErrPageForm)
			}
		}
	}
}

// TestSheetFaults: P15.1: each fault, and which of two is the first.
func TestSheetFaults(t *testing.T) {
	for _, n := range []uint64{1<<20 + 1, 1 << 32, math.MaxUint64} {
		wantNoSheet(t, sheetHead(0, n, 0, 0), api.ErrPageForm)
		wantNoSheet(t, sheetHead(n, 0, 0, 0), api.ErrPageForm)
		wantNoSheet(t, vars(n), api.ErrPageForm) // H lacks
		wantNoSheet(t, append(vars(n), 0x80, 0), api.ErrPageForm)
		wantNoSheet(t, sheetHead(1, 1, 0, n), api.ErrPageForm)
		for _, m := range []uint64{1, 2, 1 << 20, 1 << 32, 1<<63 + 1, math.MaxUint64} {
			wantNoSheet(t, vars(n, m), api.ErrTooBig)
			wantNoSheet(t, vars(m, n), api.ErrTooBig)
			wantNoSheet(t, sheetHead(n, m, 2, 1<<20+1), api.ErrTooBig)
		}
	}
	for _, s := range [][2]uint64{{1025, 1024}, {1 << 19, 3}, {3, 1 << 19}, {2, 1<<19 + 1}, {1 << 32, 1 << 32}, {1 << 63, 2}} {
		wantNoSheet(t, vars(s[0], s[1]), api.ErrTooBig)
	}
	wantNoSheet(t, sheetHead(0, 0, 0, 0), api.ErrPageForm)
	wantNoSheet(t, vars(0), api.ErrPageForm)
	for bit := 2; bit < 256; bit++ {
		wantNoSheet(t, sheetHead(1, 1, byte(bit), 0), api.ErrPageForm)
		wantNoSheet(t, []byte{1, 1, byte(bit)}, api.ErrPageForm)
	}
	for k := range 8 {
		wantNoSheet(t, sheetBytes(api.Sheet{W: 1 << 10, H: 1 << 10, Stripe: 1 << 20})[:k], api.ErrPageForm)
	}
	for _, tail := range [][]byte{{0}, {1}, {0xff}, {0, 0, 0}} {
		wantNoSheet(t, append([]byte{1, 1, 0, 0}, tail...), api.ErrPageForm)
	}
}

// TestRegionByHand: P15.2: a region, byte by byte.
func TestRegionByHand(t *testing.T) {
	dc := dice(1)
	b := dc.drawn(70, 9)
	for _, x := range []struct {
		r    api.Region
		head []byte
	}{
		{api.Region{B: b}, []byte{0, 0, 70, 9, 0}},
		{api.Region{X: 300, Y: 2, Op: api.OpXnor, Template: 2, Skip: true, B: b}, []byte{0xac, 2, 2, 70, 9, 2 + 4 + 24}},
		{api.Region{X: 1, Y: 1 << 20, Op: api.OpReplace, Template: 3, B: b}, []byte{1, 0x80, 0x80, 0x40, 70, 9, 3 + 32}},
	} {
		f, _ := generic.Encode(b, x.r.Template, x.r.Skip)
		wantRegionBytes(t, x.r, append(x.head, f...))
		wantRegionOf(t, append(x.head, f...), x.r)
	}
}

// TestForms: P15.2: each byte of a head: each template, with and without skipping, each operation, and all that is none.
func TestForms(t *testing.T) {
	dc := dice(2)
	b := dc.drawn(9, 7)
	for form := range 256 {
		if form >= 40 {
			wantNoRegion(t, []byte{0, 0, 9, 7, byte(form)}, api.ErrPageForm)
			wantNoRegion(t, append([]byte{0, 0, 9, 7, byte(form)}, dc.noise(9)...), api.ErrPageForm)
			continue
		}
		r := api.Region{Op: form / 8, Template: form % 4, Skip: form/4%2 == 1, B: b}
		f, _ := generic.Encode(b, r.Template, r.Skip)
		wantRegionBytes(t, r, append([]byte{0, 0, 9, 7, byte(form)}, f...))
		wantRegion(t, r)
	}
}

// TestRegions: P15.2: drawn regions, and places and sizes up to their edges.
func TestRegions(t *testing.T) {
	dc := dice(3)
	for range 400 {
		wantRegion(t, dc.region())
	}
	for _, n := range []int{0, 1, 127, 128, 1<<14 - 1, 1 << 14, 1<<20 - 1, 1 << 20} {
		wantRegion(t, api.Region{X: n, B: blank(1, 1)})
		wantRegion(t, api.Region{Y: n, B: blank(1, 1)})
		if n > 0 {
			wantRegion(t, api.Region{X: 1 << 20, Y: 1 << 20, Skip: true, Template: 3, B: blank(n, 1)})
			wantRegion(t, api.Region{X: 1 << 20, Y: 1 << 20, Skip: true, Template: 3, B: blank(1, n)})
		}
	}
	for template := range 4 {
		wantRegion(t, api.Region{Template: template, Skip: template%2 == 0, B: dc.drawn(1024, 1024)})
	}
	wantRegion(t, api.Region{Skip: true, B: dc.drawn(1, 1<<20)})
}

// TestRegionRefused: P15.2: regions that may not be.
func TestRegionRefused(t *testing.T) {
	b := blank(3, 2)
	for _, n := range []int{math.MinInt, -1 << 32, -1, 1<<20 + 1, 1 << 21, 1 << 32, math.MaxInt} {
		wantRegionRefused(t, api.Region{X: n, B: b})
		wantRegionRefused(t, api.Region{Y: n, B: b})
	}
	for _, n := range wrongOps() {
		wantRegionRefused(t, api.Region{Op: n, B: b})
	}
	for _, n := range []int{math.MinInt, -4, -1, 4, 5, 8, 1 << 32, math.MaxInt} {
		wantRegionRefused(t, api.Region{Template: n, B: b})
	}
	for _, wrong := range wrongBitmaps() {
		wantRegionRefused(t, api.Region{B: wrong})
	}
}

// TestRegionFaults: P15.2: each fault, and which of two is the first.
func TestRegionFaults(t *testing.T) {
	for _, n := range []uint64{1<<20 + 1, 1 << 32, math.MaxUint64} {
		wantNoRegion(t, vars(n), api.ErrPageForm)
		wantNoRegion(t, vars(1, n), api.ErrPageForm)
		wantNoRegion(t, regionHead(n, 0, n, n, 0), api.ErrPageForm)
		wantNoRegion(t, regionHead(0, n, n, n, 0), api.ErrPageForm)
		wantNoRegion(t, regionHead(0, 0, n, 0, 0), api.ErrPageForm)
		wantNoRegion(t, regionHead(0, 0, 0, n, 0), api.ErrPageForm)
		wantNoRegion(t, vars(0, 0, n), api.ErrPageForm) // H lacks
		wantNoRegion(t, append(vars(0, 0, n), 0x80, 0), api.ErrPageForm)
		for _, m := range []uint64{1, 2, 1 << 20, 1 << 32, 1<<63 + 1, math.MaxUint64} {
			wantNoRegion(t, vars(0, 1<<20, n, m), api.ErrTooBig)
			wantNoRegion(t, vars(1<<20, 0, m, n), api.ErrTooBig)
			wantNoRegion(t, regionHead(0, 0, n, m, 255), api.ErrTooBig)
		}
	}
	for _, s := range [][2]uint64{{1025, 1024}, {1 << 19, 3}, {3, 1 << 19}, {2, 1<<19 + 1}, {1 << 32, 1 << 32}, {1 << 63, 2}} {
		wantNoRegion(t, vars(0, 0, s[0], s[1]), api.ErrTooBig)
	}
	wantNoRegion(t, regionHead(0, 0, 0, 0, 0), api.ErrPageForm)
	wantNoRegion(t, vars(0, 0, 0), api.ErrPageForm)
	head := regionHead(1<<20, 1<<20, 1<<10, 1<<10, 39)
	for k := range head {
		wantNoRegion(t, head[:k], api.ErrPageForm)
	}
	wantRegionOf(t, head, api.Region{X: 1 << 20, Y: 1 << 20, Op: 4, Template: 3, Skip: true, B: decoded(nil, 1<<10, 1<<10, 3, true)})
}

// decoded is what package generic tells of any bytes.
func decoded(f []byte, w, h, template int, skip bool) api.Bitmap {
	b, _ := generic.Decode(f, w, h, template, skip)
	return b
}

// TestAnyPixels: P15.2: behind a head stands what it may: none of it is refused.
func TestAnyPixels(t *testing.T) {
	dc := dice(4)
	for range 300 {
		r := dc.region()
		tail := dc.noise(dc.below(30))
		f := regionBytes(r)
		for _, cut := range [][]byte{f[:len(f)-1], append(slices.Clone(f), tail...)} {
			want, err := toldRegion(cut)
			if err == api.OK {
				wantRegionOf(t, cut, want)
			}
		}
		form := byte(dc.below(40))
		head := regionHead(5, 6, uint64(r.B.W), uint64(r.B.H), form)
		want := api.Region{X: 5, Y: 6, Op: int(form / 8), Template: int(form % 4), Skip: form/4%2 == 1}
		want.B = decoded(tail, r.B.W, r.B.H, want.Template, want.Skip)
		wantRegionOf(t, append(head, tail...), want)
	}
}

// TestMemory: P15.1, P15.2 (DOC.md's limits): no memory is taken for a size that is above its cap.
func TestMemory(t *testing.T) {
	great := binary.AppendUvarint(nil, 1<<40)
	for _, f := range [][]byte{
		slices.Concat(great, great, []byte{0, 0}), slices.Concat([]byte{0, 0}, great, great, []byte{0}), slices.Concat([]byte{0, 0}, great, []byte{1, 0}),
		{1, 1, 0, 0x80, 0x80, 0x40}, regionHead(0, 0, 1<<20, 1, 40), regionHead(0, 0, 1<<20, 2, 0), sheetHead(1<<20, 1, 0, 1<<20),
	} {
		var before, behind runtime.MemStats
		runtime.ReadMemStats(&before)
		page.DecodeSheet(f)
		if _, err := toldRegion(f); err != api.OK {
			page.DecodeRegion(f)
		}
		runtime.ReadMemStats(&behind)
		if taken := behind.TotalAlloc - before.TotalAlloc; taken > 1<<14 {
			t.Errorf("%x: %d bytes were taken", f, taken)
		}
	}
}

// TestNew: P15.3: a page is all Default, none of its rows ended.
func TestNew(t *testing.T) {
	for _, size := range [][2]int{{1, 1}, {3, 2}, {63, 2}, {64, 2}, {65, 3}, {130, 5}, {1 << 20, 1}, {1, 1 << 20}, {1024, 1024}} {
		for bit := range 2 {
			s := api.Sheet{W: size[0], H: size[1], Default: bit}
			p := newPage(t, s)
			if p.Next() != 0 {
				t.Fatalf("New(%v): row %d is the first", s, p.Next())
			}
			want := newModel(s).picture()
			wantEnd(t, p, want)
			s.Stripe = s.H
			p = newPage(t, s)
			wantNoEnd(t, p)
			wantStripe(t, p, s.H-1, api.OK, s.H)
			wantEnd(t, p, want)
		}
	}
}

// TestOperations: P15.4: each operation on each default, one behind the other.
func TestOperations(t *testing.T) {
	row := func(pixels uint64) api.Bitmap { return api.Bitmap{W: 4, H: 1, Bits: []uint64{pixels << 60}} }
	for _, x := range []struct {
		op, bit int
		want    uint64
	}{
		{api.OpOr, 0, 0b0111}, {api.OpAnd, 0, 0}, {api.OpXor, 0, 0b0110}, {api.OpXnor, 0, 0b0110}, {api.OpReplace, 0, 0b0101},
		{api.OpOr, 1, 0b1111}, {api.OpAnd, 1, 0b0001}, {api.OpXor, 1, 0b1001}, {api.OpXnor, 1, 0b1001}, {api.OpReplace, 1, 0b0101},
	} {
		p := newPage(t, api.Sheet{W: 4, H: 1, Default: x.bit})
		wantAdd(t, p, 0, 0, x.op, row(0b0011), api.OK)
		wantAdd(t, p, 0, 0, x.op, row(0b0101), api.OK)
		wantEnd(t, p, row(x.want))
	}
}

// TestAddForm: P15.4: an operation or a bitmap that may not be, told ahead of a wrong order, too; nothing is laid.
func TestAddForm(t *testing.T) {
	p := newPage(t, api.Sheet{W: 8, H: 5, Stripe: 2})
	wantWrong := func() {
		t.Helper()
		for _, y := range []int{0, 1, 2, 9, -1, math.MinInt, math.MaxInt} {
			for _, op := range wrongOps() {
				wantAdd(t, p, 0, y, op, black(3, 2), api.ErrPageForm)
			}
			for _, b := range wrongBitmaps() {
				wantAdd(t, p, 0, y, api.OpReplace, b, api.ErrPageForm)
			}
		}
	}
	for _, last := range []int{1, 3, 4} {
		wantWrong()
		wantStripe(t, p, last, api.OK, last+1)
	}
	wantWrong()
	wantEnd(t, p, blank(8, 5))
	wantWrong()
}

// TestAddOrder: P15.4: rows that are ended, rows beyond the stripe, a page that has ended; nothing is laid there.
func TestAddOrder(t *testing.T) {
	p := newPage(t, api.Sheet{W: 3, H: 7, Stripe: 3})
	b := black(3, 2)
	for _, last := range []int{2, 5, 6} {
		next := p.Next()
		for _, y := range []int{next - 1, next - 2, -1, math.MinInt, next + 2, next + 3, math.MaxInt - 2, math.MaxInt - 1, math.MaxInt} {
			wantAdd(t, p, 0, y, api.OpOr, b, api.ErrPageOrder)
		}
		wantAdd(t, p, 0, next, api.OpOr, black(3, 4), api.ErrPageOrder)
		wantAdd(t, p, 0, next+3, api.OpOr, black(3, 1), api.ErrPageOrder)
		wantAdd(t, p, 0, next, api.OpOr, blank(1, 1<<20), api.ErrPageOrder)
		wantAdd(t, p, 0, next+1, api.OpOr, black(1, 2), api.OK)
		wantStripe(t, p, last, api.OK, last+1)
	}
	wantAdd(t, p, 0, 6, api.OpOr, b, api.ErrPageOrder)
	wantAdd(t, p, 0, 9, api.OpOr, b, api.ErrPageOrder)
	wantAdd(t, p, 0, 7, api.OpOr, black(3, 3), api.OK) // below the page: let go
	wantAdd(t, p, 0, 8, api.OpOr, b, api.OK)
	column := api.Bitmap{W: 3, H: 7, Bits: []uint64{0, 1 << 63, 1 << 63, 0, 1 << 63, 1 << 63, 0}}
	wantEnd(t, p, column)
	for _, y := range []int{-1, 0, 6, 7, 8, math.MaxInt} {
		wantAdd(t, p, 0, y, api.OpOr, b, api.ErrPageOrder)
	}
	p = newPage(t, api.Sheet{W: 3, H: 7})
	for _, y := range []int{-1, -2, -7, math.MinInt} {
		wantAdd(t, p, 0, y, api.OpOr, b, api.ErrPageOrder)
	}
	wantEnd(t, p, blank(3, 7))
	wantAdd(t, p, 0, 0, api.OpOr, b, api.ErrPageOrder)
}

// TestAddFar: P15.4: x is any int, y any from Next on; what is outside is let go.
func TestAddFar(t *testing.T) {
	s := api.Sheet{W: 5, H: 4, Default: 1}
	p, m := newPage(t, s), newModel(s)
	b := black(7, 3)
	for _, x := range append(farInts(), -8, -7, -6, -1, 0, 1, 4, 5, 6) {
		for _, y := range []int{0, 1, 3, 4, 5, 1 << 20, math.MaxInt - 3, math.MaxInt - 2, math.MaxInt - 1, math.MaxInt} {
			wantAdd(t, p, x, y, api.OpXor, b, api.OK)
			m.add(x, y, api.OpXor, b)
		}
	}
	wantAdd(t, p, -1000, 0, api.OpXnor, blank(1024, 1024), api.OK)
	m.add(-1000, 0, api.OpXnor, blank(1024, 1024))
	wantEnd(t, p, m.picture())
}

// TestStripeBeyond: P15.4, P15.5: a stripe of more rows than the page has: regions may hang over the page's end.
func TestStripeBeyond(t *testing.T) {
	for _, stripe := range []int{5, 6, 100, 1 << 20} {
		p := newPage(t, api.Sheet{W: 2, H: 5, Stripe: stripe})
		wantAdd(t, p, 0, stripe-2, api.OpOr, black(2, 2), api.OK)
		wantAdd(t, p, 0, stripe-1, api.OpOr, black(2, 2), api.ErrPageOrder)
		wantAdd(t, p, 1, 0, api.OpOr, blank(1, stripe), api.OK)
		for _, last := range []int{-1, 0, 3, 5, stripe, math.MaxInt} {
			wantStripe(t, p, last, api.ErrPageOrder, 0)
		}
		wantStripe(t, p, 4, api.OK, 5)
		want := blank(2, 5)
		if stripe < 7 {
			for y := stripe - 2; y < 5; y++ {
				want.Bits[y] = 3 << 62
			}
		}
		wantEnd(t, p, want)
	}
}

// TestStripes: P15.5: of each height and stripe: the rows that end stripes, and no others.
func TestStripes(t *testing.T) {
	for h := 1; h <= 12; h++ {
		for stripe := 1; stripe <= 14; stripe++ {
			p := newPage(t, api.Sheet{W: 1, H: h, Stripe: stripe})
			for from := 0; from < h; from += stripe {
				right := min(from+stripe-1, h-1)
				for last := -2; last < h+stripe+2; last++ {
					if last != right {
						wantStripe(t, p, last, api.ErrPageOrder, from)
					}
				}
				for _, last := range farInts() {
					wantStripe(t, p, last, api.ErrPageOrder, from)
				}
				wantNoEnd(t, p)
				wantStripe(t, p, right, api.OK, right+1)
			}
			wantOver := func() {
				t.Helper()
				for last := -2; last < h+stripe+2; last++ {
					wantStripe(t, p, last, api.ErrPageOrder, h)
				}
			}
			wantOver()
			wantEnd(t, p, blank(1, h))
			wantOver()
			wantNoEnd(t, p)
		}
	}
}

// TestWithoutStripes: P15.5: the rows of a page without stripes are ended by End alone.
func TestWithoutStripes(t *testing.T) {
	p := newPage(t, api.Sheet{W: 2, H: 3})
	for _, last := range append(farInts(), -2, -1, 0, 1, 2, 3) {
		wantStripe(t, p, last, api.ErrPageOrder, 0)
	}
	wantAdd(t, p, 0, 0, api.OpOr, black(2, 3), api.OK)
	wantAdd(t, p, 0, 2, api.OpXor, black(2, 9), api.OK)
	if p.Next() != 0 {
		t.Fatalf("row %d is the first", p.Next())
	}
	wantEnd(t, p, api.Bitmap{W: 2, H: 3, Bits: []uint64{3 << 62, 3 << 62, 0}})
	for last := -1; last < 4; last++ {
		wantStripe(t, p, last, api.ErrPageOrder, 3)
	}
	wantNoEnd(t, p)
	wantNoEnd(t, p)
}
