package page_test

import (
	"bytes"
	"math"
	"slices"
	"sync"
	"testing"

	"burin/api"
	"burin/bitmap"
	"burin/page"
)

// TestThereAndBack: P15.6: Decode of Encode is the sheet, the region.
func TestThereAndBack(t *testing.T) {
	dc := dice(10)
	for range 400 {
		s, r := dc.sheet(), dc.region()
		f, e1 := page.EncodeSheet(s)
		g, e2 := page.EncodeRegion(r)
		if e1 != api.OK || e2 != api.OK {
			t.Fatalf("errors %d, %d", e1, e2)
		}
		wantSheet(t, s, f)
		wantRegionOf(t, g, r)
	}
}

// TestLaid: P15.6: of regions that are added the bitmap is as if they were laid one behind the other.
func TestLaid(t *testing.T) {
	dc := dice(11)
	for range 300 {
		s := dc.sheet()
		s.Stripe = 0
		p := newPage(t, s)
		m, _ := bitmap.New(s.W, s.H)
		m.Fill(0, 0, s.W, s.H, s.Default)
		for range dc.below(12) {
			r := dc.region()
			r.X, r.Y = dc.below(s.W+2), dc.below(s.H+2)
			f, _ := page.EncodeRegion(r)
			got, _ := page.DecodeRegion(f)
			wantAdd(t, p, got.X, got.Y, got.Op, got.B, api.OK)
			src, _ := bitmap.From(r.B)
			m.Blit(src, 0, 0, r.B.W, r.B.H, r.X, r.Y, r.Op)
		}
		wantEnd(t, p, m.Plain())
	}
}

// TestStripesDoNotTell: P15.6: a page in stripes is the same as one without, if its regions keep to them.
func TestStripesDoNotTell(t *testing.T) {
	dc := dice(12)
	for range 300 {
		s, stripe := dc.sheet(), 1+dc.below(6)
		s.Stripe = stripe
		p := newPage(t, s)
		s.Stripe = 0
		whole := newPage(t, s)
		for from := 0; from < s.H; from = p.Next() {
			for range dc.below(6) {
				height := 1 + dc.below(stripe)
				b := dc.drawn(1+dc.below(9), height)
				x, y, op := dc.below(12)-3, from+dc.below(stripe-height+1), dc.below(5)
				wantAdd(t, p, x, y, op, b, api.OK)
				wantAdd(t, whole, x, y, op, b, api.OK)
			}
			last := min(from+stripe, s.H) - 1
			wantStripe(t, p, last, api.OK, last+1)
		}
		want, _ := whole.End()
		wantEnd(t, p, want)
	}
}

// step is one call, on a page and on its model.
func step(t *testing.T, dc *dice, p *page.Page, m *model) api.Errno {
	t.Helper()
	switch dc.below(8) {
	case 0, 1:
		last := []int{m.next(), m.next() + m.s.Stripe - 1, m.s.H - 1, dc.place()}[dc.below(4)]
		err := m.stripe(last)
		wantStripe(t, p, last, err, m.next())
		return err
	case 2:
		if dc.below(3) > 0 {
			return api.OK
		}
		b, err := m.end()
		if err == api.OK {
			wantEnd(t, p, b)
		} else {
			wantNoEnd(t, p)
		}
		return err
	}
	x, y, op, b := dc.place(), m.next()+dc.below(5)-1, dc.below(5), dc.drawn(1+dc.below(9), 1+dc.below(4))
	if dc.below(6) == 0 {
		y = dc.place()
	}
	if dc.below(9) == 0 {
		op = wrongOps()[dc.below(len(wrongOps()))]
	}
	if dc.below(9) == 0 {
		b.Bits = b.Bits[1:]
	}
	err := m.add(x, y, op, b)
	wantAdd(t, p, x, y, op, b, err)
	return err
}

// TestCalls: P15.3 to P15.6: calls in any order, against the model; those that are refused change nothing.
func TestCalls(t *testing.T) {
	dc := dice(13)
	met := map[api.Errno]int{}
	for range 1500 {
		s := dc.sheet()
		p, m := newPage(t, s), newModel(s)
		for range 30 {
			met[step(t, &dc, p, m)]++
			if p.Next() != m.next() {
				t.Fatalf("row %d, want %d", p.Next(), m.next())
			}
		}
		for m.stripe(min(m.next()+s.Stripe, s.H)-1) == api.OK {
			wantStripe(t, p, m.next()-1, api.OK, m.next())
		}
		if b, err := m.end(); err == api.OK {
			wantEnd(t, p, b)
		}
	}
	if met[api.OK] < 1000 || met[api.ErrPageForm] < 1000 || met[api.ErrPageOrder] < 1000 {
		t.Errorf("too few of a kind: %v", met)
	}
}

// wantAsTold holds both readers against the model's, and tells which errors they were.
func wantAsTold(t *testing.T, f []byte) (sheet, region api.Errno) {
	t.Helper()
	s, sheet := toldSheet(f)
	if got, err := page.DecodeSheet(f); err != sheet || got != s {
		t.Fatalf("DecodeSheet(%x): %v, error %d, want %v, %d", f, got, err, s, sheet)
	}
	r, region := toldRegion(f)
	if region != api.OK {
		wantNoRegion(t, f, region)
	} else {
		wantRegionOf(t, f, r)
	}
	return sheet, region
}

// TestAnyBytes: P15.1, P15.2, P15.7: over any bytes the first fault is told, or what they say.
func TestAnyBytes(t *testing.T) {
	dc := dice(14)
	sheets, regions := map[api.Errno]int{}, map[api.Errno]int{}
	for range 5000 {
		f := dc.noise(dc.below(14))
		if dc.below(3) == 0 {
			f = append(vars(uint64(dc.below(300)), uint64(dc.below(4))), f...)
		}
		sheet, region := wantAsTold(t, f)
		sheets[sheet]++
		regions[region]++
	}
	for _, met := range []map[api.Errno]int{sheets, regions} {
		if met[api.OK] < 10 || met[api.ErrPageForm] < 10 || met[api.ErrTooBig] < 10 {
			t.Errorf("too few of a kind: %v", met)
		}
	}
}

// TestChanged: P15.1, P15.2, P15.7: bytes of sheets and regions, cut or with one of them changed.
func TestChanged(t *testing.T) {
	dc := dice(15)
	met := map[api.Errno]int{}
	for range 4000 {
		f := sheetBytes(dc.sheet())
		if dc.below(2) == 0 {
			f = regionBytes(dc.region())
		}
		at := dc.below(min(len(f), 12))
		switch dc.below(4) {
		case 0:
			f = f[:at]
		case 1:
			f[at] ^= 1 << dc.below(8)
		case 2:
			f[at] = dc.noise(1)[0]
		case 3:
			f = append(f, dc.noise(1)...)
		}
		sheet, region := wantAsTold(t, f)
		met[sheet]++
		met[region]++
	}
	if met[api.OK] < 10 || met[api.ErrPageForm] < 10 || met[api.ErrTooBig] < 10 {
		t.Errorf("too few of a kind: %v", met)
	}
}

// TestHandedInStays: P15.7 (R2): what is handed in stays as it is, behind its length, too, and nothing is read there.
func TestHandedInStays(t *testing.T) {
	dc := dice(16)
	for range 200 {
		r, s := dc.region(), dc.sheet()
		s.Stripe = 0
		words := slices.Clone(r.B.Bits)
		long := append(slices.Clone(words), math.MaxUint64, 7)
		r.B.Bits = long[:len(words)]
		f, g := regionBytes(r), sheetBytes(s)
		longF, longG := append(slices.Clone(f), 1, 2, 3), append(slices.Clone(g), 0, 1)
		wantRegionBytes(t, r, f)
		wantRegionOf(t, longF[:len(f)], r)
		wantSheet(t, s, longG[:len(g)])
		p, m := newPage(t, s), newModel(s)
		wantAdd(t, p, 0, 0, r.Op, r.B, api.OK)
		m.add(0, 0, r.Op, r.B)
		wantAdd(t, p, 0, 0, r.Op, api.Bitmap{W: r.B.W, H: r.B.H + 1, Bits: r.B.Bits}, api.ErrPageForm)
		wantEnd(t, p, m.picture())
		if !slices.Equal(long, append(words, math.MaxUint64, 7)) || !bytes.Equal(longF, append(f, 1, 2, 3)) || !bytes.Equal(longG, append(g, 0, 1)) {
			t.Fatal("what was handed in was changed, or what lies behind it")
		}
	}
}

// scribble writes over all memory of words.
func scribble(words []uint64) {
	words = words[:cap(words)]
	for i := range words {
		words[i] = 0x5555555555555555
	}
}

// TestAnswerStays: P15.7 (R2): what was told stays, whatever becomes of what was handed in; the next answer is new.
func TestAnswerStays(t *testing.T) {
	dc := dice(17)
	for range 200 {
		r, s := dc.region(), dc.sheet()
		s.Stripe = 0
		want, p, m := regionBytes(r), newPage(t, s), newModel(s)
		in := r
		in.B.Bits = slices.Clone(r.B.Bits)
		bytesIn := slices.Clone(want)
		f, _ := page.EncodeRegion(in)
		got, _ := page.DecodeRegion(bytesIn)
		wantAdd(t, p, 0, 0, r.Op, in.B, api.OK)
		m.add(0, 0, r.Op, r.B)
		scribble(in.B.Bits)
		clear(bytesIn)
		if !bytes.Equal(f, want) || !sameRegion(got, r) {
			t.Fatal("an answer changed with what was handed in")
		}
		g, _ := page.EncodeSheet(s)
		clear(f[:cap(f)])
		clear(g[:cap(g)])
		scribble(got.B.Bits)
		wantRegion(t, r)
		wantSheet(t, s, sheetBytes(s))
		b, _ := p.End()
		if !sameBitmap(b, m.picture()) {
			t.Fatal("a page changed with what was handed in")
		}
		scribble(b.Bits)
		wantNoEnd(t, p)
	}
}

// TestApart: P15.7 (R2): a call on a page changes that page alone.
func TestApart(t *testing.T) {
	dc := dice(18)
	var pages []*page.Page
	var models []*model
	for k := range 8 {
		s := api.Sheet{W: 9, H: 9, Default: k % 2, Stripe: k % 4}
		pages, models = append(pages, newPage(t, s)), append(models, newModel(s))
	}
	for range 4000 {
		k := dc.below(8)
		step(t, &dc, pages[k], models[k])
		for i, p := range pages {
			if p.Next() != models[i].next() {
				t.Fatalf("page %d went on with page %d", i, k)
			}
		}
		if models[k].over {
			s := models[k].s
			pages[k], models[k] = newPage(t, s), newModel(s)
		}
	}
}

// TestShared: P15.7 (R2): what is handed in is only read, by several at the same time, too (go test -race tells).
func TestShared(t *testing.T) {
	dc := dice(19)
	r, s := dc.region(), api.Sheet{W: 9, H: 9}
	want, head := regionBytes(r), sheetBytes(s)
	var all sync.WaitGroup
	for range 4 {
		all.Go(func() {
			f, _ := page.EncodeRegion(r)
			got, _ := page.DecodeRegion(want)
			again, _ := page.DecodeSheet(head)
			p, _ := page.New(s)
			err := p.Add(0, 0, r.Op, r.B)
			if b, bad := p.End(); !bytes.Equal(f, want) || !sameRegion(got, r) || again != s || err != api.OK || bad != api.OK || b.W != 9 {
				t.Error("other answers")
			}
		})
	}
	all.Wait()
}

// TestNoPanic: P15.7 (R3): calls end, whatever is handed in; beside an error stands nothing.
func TestNoPanic(t *testing.T) {
	dc := dice(20)
	wrong, far := wrongBitmaps(), append(farInts(), -1)
	for range 3000 {
		n, b := far[dc.below(len(far))], wrong[dc.below(len(wrong))]
		s := dc.sheet()
		*[]*int{&s.W, &s.H, &s.Default}[dc.below(3)] = n
		if isGreat := s.W == 1<<20 && s.H == 1 || s.H == 1<<20 && s.W == 1; isGreat && s.Default < 2 {
			wantSheet(t, s, sheetBytes(s))
		} else {
			wantSheetRefused(t, s)
		}
		r := dc.region()
		isFar := n != 1<<20 // a corner may be as far as that
		switch dc.below(5) {
		case 0:
			r.Op, isFar = n, true
		case 1:
			r.Template, isFar = n, true
		case 2:
			r.B, isFar = b, true
		case 3:
			r.X = n
		case 4:
			r.Y = n
		}
		if isFar {
			wantRegionRefused(t, r)
		} else {
			wantRegion(t, r)
		}
	}
}
