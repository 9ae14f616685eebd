package refine_test

import (
	"bytes"
	"testing"

	"burin/api"
	"burin/refine"
)

// TestExample: P8.1: the chapter's example: the reference's middle alone; shifted, its right neighbour.
func TestExample(t *testing.T) {
	one := black(1, 1)
	for _, x := range []struct{ dx, dy, context int }{
		{0, 0, 16}, {1, 0, 8}, {-1, 0, 32}, {0, 1, 2}, {0, -1, 128}, {1, 1, 1}, {-1, -1, 256}, {1, -1, 64}, {-1, 1, 4}, {2, 0, 0}, {0, -2, 0},
	} {
		c, m := newCoder(t, size), newCoder(t, size)
		side{one, x.dx, x.dy}.put(t, c, 0, one)
		m.Put(x.context, 1)
		wantSame(t, c, m)
	}
}

// TestByHand: P8.1: a small raster, its decisions spelt out.
func TestByHand(t *testing.T) {
	p := raster(
		"#.#",
		".##",
	)
	s := side{raster(
		"##",
		".#",
	), 1, 0}
	c, m := newCoder(t, size), newCoder(t, size)
	s.put(t, c, 0, p)
	modelPut(m, 0, []decision{
		{0b0000_000_001_000, 1}, {0b0001_000_011_001, 0}, {0b0000_000_110_010, 1},
		{0b0100_001_000_000, 0}, {0b1010_011_001_000, 1}, {0b0101_110_010_000, 1},
	})
	wantSame(t, c, m)

	s.dx, s.dy = 0, 1
	c, m = newCoder(t, size), newCoder(t, size)
	s.put(t, c, 0, p)
	modelPut(m, 0, []decision{
		{0b0000_000_000_011, 1}, {0b0001_000_000_110, 0}, {0b0000_000_000_100, 1},
		{0b0100_000_011_001, 0}, {0b1010_000_110_010, 1}, {0b0101_000_100_100, 1},
	})
	wantSame(t, c, m)
}

// TestDecisions: P8.1: rasters of all sorts, decision by decision, at any base; no other context is touched.
func TestDecisions(t *testing.T) {
	dc := dice(1)
	for range 400 {
		p, s := dc.drawn(dc.wide(), 1+dc.below(8), 2+dc.below(6)), dc.side()
		base, more := dc.below(50), dc.below(50)
		c, m := newCoder(t, base+size+more), newCoder(t, base+size+more)
		s.put(t, c, base, p)
		modelPut(m, base, s.decisions(p))
		wantSame(t, c, m)
	}
}

// TestGetDecisions: P8.1, P8.2: a bitmap is got of decisions that were coded one by one; the decoder stands behind them then.
func TestGetDecisions(t *testing.T) {
	dc := dice(2)
	for range 400 {
		p, s := dc.drawn(dc.wide(), 1+dc.below(8), 2+dc.below(6)), dc.side()
		base := dc.below(50)
		c := newCoder(t, base+size)
		modelPut(c, base, s.decisions(p))
		states := c.States()
		f, _ := c.Flush()
		d := newDecoder(t, f, base+size)
		s.wantGet(t, d, base, p)
		if !bytes.Equal(d.States(), states) {
			t.Fatal("other states than the coder's")
		}
	}
}

// TestOnePlace: P8.1: a reference of one black pixel, shifted over every place of a bitmap and about it, is seen from nine places alone.
func TestOnePlace(t *testing.T) {
	one, p := black(1, 1), blank(66, 3)
	for dy := -2; dy <= 4; dy++ {
		for dx := -2; dx <= 67; dx++ {
			s := side{one, dx, dy}
			c, m := newCoder(t, size), newCoder(t, size)
			s.put(t, c, 0, p)
			for y := range 3 {
				for x := range 66 {
					context := 0
					if i, j := dx-x, dy-y; -1 <= i && i <= 1 && -1 <= j && j <= 1 {
						context = 1 << (8 - (3*(j+1) + i + 1))
					}
					m.Put(context, 0)
				}
			}
			wantSame(t, c, m)
		}
	}
}

// TestFarShift: P8.2: the greatest shifts may be; a reference is let go there, but for one of so many pixels.
func TestFarShift(t *testing.T) {
	p := raster("#.#", ".#.")
	for _, n := range [][2]int{{api.MaxArea, 0}, {-api.MaxArea, 0}, {0, api.MaxArea}, {0, -api.MaxArea}, {api.MaxArea, -api.MaxArea}, {-api.MaxArea, api.MaxArea}} {
		c, m := newCoder(t, size), newCoder(t, size)
		wantPut(t, c, 0, p.plain(), black(9, 9).plain(), n[0], n[1], api.OK)
		modelPut(m, 0, side{blank(1, 1), 0, 0}.decisions(p))
		wantSame(t, c, m)
	}
	for _, s := range []side{{black(api.MaxArea, 1), -api.MaxArea, 0}, {black(1, api.MaxArea), 0, -api.MaxArea}, {black(api.MaxArea, 1), 1 - api.MaxArea, 1}} {
		c, m := newCoder(t, size), newCoder(t, size)
		s.put(t, c, 0, p)
		modelPut(m, 0, s.decisions(p))
		wantSame(t, c, m)
	}
}

// TestPutRefused: P8.2: the first error that applies; nothing is coded beside it.
func TestPutRefused(t *testing.T) {
	one, none := black(1, 1).plain(), api.Bitmap{}
	const far = api.MaxArea + 1
	wantPut(t, nil, -1, none, none, far, far, api.ErrWholeNone)
	wantPut(t, nil, -1, one, one, 0, 0, api.ErrWholeNone)
	wantPut(t, nil, 0, one, one, 0, 0, api.ErrWholeNone)
	c := newCoder(t, size+4)
	for _, b := range wrongBitmaps() {
		wantPut(t, c, -1, b, one, far, 0, api.ErrGenericForm)
		wantPut(t, c, -1, one, b, 0, far, api.ErrGenericForm)
		wantPut(t, c, 0, b, b, 0, 0, api.ErrGenericForm)
		wantPut(t, c, 0, b, one, 0, 0, api.ErrGenericForm)
		wantPut(t, c, 0, one, b, 0, 0, api.ErrGenericForm)
	}
	for _, n := range wrongShifts() {
		wantPut(t, c, -1, one, one, n[0], n[1], api.ErrRefineShift)
		wantPut(t, c, 0, one, one, n[0], n[1], api.ErrRefineShift)
	}
	for _, base := range wrongBases() {
		wantPut(t, c, base, one, one, 0, 0, api.ErrWholeBase)
		wantPut(t, c, base, one, one, api.MaxArea, -api.MaxArea, api.ErrWholeBase)
	}
	wantPut(t, c, 4, one, one, 0, 0, api.OK)
	m := newCoder(t, size+4)
	modelPut(m, 4, []decision{{16, 1}})
	wantSame(t, c, m)
	wantPut(t, c, 5, one, one, 0, 0, api.ErrWholeBase)
	wantPut(t, c, 4, one, one, 0, 0, api.ErrArithDone)
	wantPut(t, newCoder(t, size-1), 0, one, one, 0, 0, api.ErrWholeBase)
	wantPut(t, newCoder(t, 1), 0, one, one, 0, 0, api.ErrWholeBase)
}

// TestGetRefused: P8.2: the first error that applies; nothing is passed beside it.
func TestGetRefused(t *testing.T) {
	one, none := black(1, 1).plain(), api.Bitmap{}
	const far = api.MaxArea + 1
	wantNotGot(t, nil, -1, 0, 0, none, far, far, api.ErrWholeNone)
	wantNotGot(t, nil, 0, 1, 1, one, 0, 0, api.ErrWholeNone)
	p, s := raster("#..#", ".##.", ".##."), side{raster("##", "##"), 1, 1}
	c := newCoder(t, size+4)
	s.put(t, c, 4, p)
	f, _ := c.Flush()
	d := newDecoder(t, f, size+4)
	for _, b := range wrongBitmaps() {
		wantNotGot(t, d, -1, 0, 5, b, far, 0, api.ErrGenericForm)
		wantNotGot(t, d, 0, 4, 3, b, 0, 0, api.ErrGenericForm)
	}
	for _, n := range wrongSizes() {
		wantNotGot(t, d, -1, n[0], n[1], one, 0, far, api.ErrGenericArea)
		wantNotGot(t, d, 0, n[0], n[1], one, 0, 0, api.ErrGenericArea)
	}
	for _, n := range wrongShifts() {
		wantNotGot(t, d, -1, 4, 3, one, n[0], n[1], api.ErrRefineShift)
		wantNotGot(t, d, 0, 4, 3, one, n[0], n[1], api.ErrRefineShift)
	}
	for _, base := range wrongBases() {
		wantNotGot(t, d, base, 4, 3, one, 1, 1, api.ErrWholeBase)
		wantNotGot(t, d, base, 4, 3, one, -api.MaxArea, api.MaxArea, api.ErrWholeBase)
	}
	s.wantGet(t, d, 4, p)
	wantNotGot(t, newDecoder(t, f, size-1), 0, 1, 1, one, 0, 0, api.ErrWholeBase)
}

// fill leaves so many decisions of a coder, or a decoder, as are named.
func fill(left int, decide func()) {
	for range api.MaxDecisions - left {
		decide()
	}
}

// TestFull: P8.2: the coder's error, and the decoder's, within a bitmap: what was coded stays coded.
func TestFull(t *testing.T) {
	p, s := raster("#.#.", "#.#.", ".##."), side{raster("#.#", "#.#", ".##"), 0, 0}
	const left = 7
	c, m := newCoder(t, size), newCoder(t, size)
	d, e := newDecoder(t, []byte{1, 2, 3}, size), newDecoder(t, []byte{1, 2, 3}, size)
	fill(left, func() {
		c.Put(7, 0)
		m.Put(7, 0)
		d.Get(7)
		e.Get(7)
	})
	for range 2 {
		wantPut(t, c, 0, p.plain(), s.ref.plain(), 0, 0, api.ErrArithFull)
	}
	modelPut(m, 0, s.decisions(p)[:left])
	wantSame(t, c, m)

	wantNotGot(t, d, 0, 50, 50, s.ref.plain(), 0, 0, api.ErrArithFull)
	wantNotGot(t, d, 0, 1, 1, s.ref.plain(), 0, 0, api.ErrArithFull)
	s.modelGet(e, 0, left, 1)
	if !bytes.Equal(d.States(), e.States()) {
		t.Error("other states than decision by decision")
	}
}

// TestLastDecision: P8.2: a bitmap that takes the last decisions is coded, and got.
func TestLastDecision(t *testing.T) {
	p, s := raster("##.", "##.", ".#."), side{raster("###", "##.", ".#."), 0, 0}
	c := newCoder(t, size)
	fill(9, func() { c.Put(7, 0) })
	s.put(t, c, 0, p)
	wantPut(t, c, 0, p.plain(), p.plain(), 0, 0, api.ErrArithFull)
	f, _ := c.Flush()
	d := newDecoder(t, f, size)
	fill(9, func() { d.Get(7) })
	s.wantGet(t, d, 0, p)
	wantNotGot(t, d, 0, 1, 1, p.plain(), 0, 0, api.ErrArithFull)
}

// TestGreatest: P8.2: as many contexts as a coder has.
func TestGreatest(t *testing.T) {
	p, s := raster("#.#", ".#."), side{raster(".##"), -1, 1}
	base := api.MaxContexts - size
	c := newCoder(t, api.MaxContexts)
	wantPut(t, c, base+1, p.plain(), p.plain(), 0, 0, api.ErrWholeBase)
	s.put(t, c, base, p)
	f, _ := c.Flush()
	d := newDecoder(t, f, api.MaxContexts)
	wantNotGot(t, d, base+1, 3, 2, p.plain(), 0, 0, api.ErrWholeBase)
	s.wantGet(t, d, base, p)
}

// TestEncode: P8.3: the bytes of a coder that has just the procedure's contexts.
func TestEncode(t *testing.T) {
	dc := dice(3)
	for range 200 {
		p, s := dc.drawn(dc.wide(), 1+dc.below(8), 2+dc.below(6)), dc.side()
		m := newCoder(t, size)
		modelPut(m, 0, s.decisions(p))
		want, _ := m.Flush()
		s.wantEncode(t, p, want)
		s.wantDecode(t, want, p)
	}
}

// TestEncodeRefused: P8.3: the first error that applies.
func TestEncodeRefused(t *testing.T) {
	one := black(1, 1).plain()
	for _, b := range wrongBitmaps() {
		wantNotEncoded(t, b, one, 0, 0, api.ErrGenericForm)
		wantNotEncoded(t, one, b, 0, 0, api.ErrGenericForm)
		wantNotEncoded(t, b, b, 0, api.MaxArea+1, api.ErrGenericForm)
	}
	for _, n := range wrongShifts() {
		wantNotEncoded(t, one, one, n[0], n[1], api.ErrRefineShift)
	}
}

// TestDecodeRefused: P8.3: the first error that applies.
func TestDecodeRefused(t *testing.T) {
	one := black(1, 1).plain()
	for _, f := range [][]byte{nil, {1, 2, 3}} {
		for _, b := range wrongBitmaps() {
			wantNotDecoded(t, f, 0, 5, b, api.MaxArea+1, 0, api.ErrGenericForm)
			wantNotDecoded(t, f, 1, 1, b, 0, 0, api.ErrGenericForm)
		}
		for _, n := range wrongSizes() {
			wantNotDecoded(t, f, n[0], n[1], one, api.MaxArea+1, 0, api.ErrGenericArea)
			wantNotDecoded(t, f, n[0], n[1], one, 0, 0, api.ErrGenericArea)
		}
		for _, n := range wrongShifts() {
			wantNotDecoded(t, f, 1, 1, one, n[0], n[1], api.ErrRefineShift)
		}
	}
}

// TestItself: P8.3: a bitmap with itself as the reference takes few bytes.
func TestItself(t *testing.T) {
	dc := dice(4)
	p := dc.drawn(200, 200, 2)
	near, err := refine.Encode(p.plain(), p.plain(), 0, 0)
	away, _ := refine.Encode(p.plain(), p.plain(), 200, 0)
	if err != api.OK || len(near) > 2500 || len(away) < 4500 {
		t.Errorf("%d bytes, %d without the reference, error %d", len(near), len(away), err)
	}
}
