package generic_test

import (
	"bytes"
	"math"
	"testing"

	"burin/api"
	"burin/arith"
	"burin/generic"
)

// bothWays goes through all templates, without and with skip.
func bothWays(yield func(template int, skip bool) bool) {
	for template := range 4 {
		if !yield(template, false) || !yield(template, true) {
			return
		}
	}
}

// TestExample: P7.1, P7.2, P7.3: the chapter's example: one decision a row, in the context behind the template's; Get of 0 times 5.
func TestExample(t *testing.T) {
	for template, size := range sizes {
		c, m := newCoder(t, size+1), newCoder(t, size+1)
		wantPut(t, c, 0, blank(70, 9).plain(), template, true, api.OK)
		for range 9 {
			m.Put(size, 1)
		}
		wantSame(t, c, m)
		wantNotGot(t, newDecoder(t, nil, size+1), 0, 0, 5, template, true, api.ErrGenericArea)
		wantNotDecoded(t, nil, 0, 5, template, api.ErrGenericArea)
	}
}

// TestByHand: P7.1: a small raster, its decisions spelt out.
func TestByHand(t *testing.T) {
	p := raster("...", "#.#", "#.#", "#..")
	c, m := newCoder(t, 1025), newCoder(t, 1025)
	wantPut(t, c, 0, p.plain(), 2, true, api.OK)
	modelPut(m, 0, []decision{
		{1024, 1}, // white, as what lies above
		{1024, 0}, {0, 1}, {0b01, 0}, {0b10, 1},
		{1024, 1},
		{1024, 0}, {0b010_00101_00, 1}, {0b101_01010_01, 0}, {0b010_10100_10, 0},
	})
	wantSame(t, c, m)

	c, m = newCoder(t, 1025), newCoder(t, 1025)
	wantPut(t, c, 0, p.plain(), 3, false, api.OK)
	modelPut(m, 0, []decision{
		{0, 0}, {0, 0}, {0, 0},
		{0, 1}, {0b0001, 0}, {0b0010, 1},
		{0b000101_0000, 1}, {0b001010_0001, 0}, {0b010100_0010, 1},
		{0b000101_0000, 1}, {0b001010_0001, 0}, {0b010100_0010, 0},
	})
	wantSame(t, c, m)
}

// TestDecisions: P7.1: rasters of all sorts, decision by decision, at any base; no other context is touched.
func TestDecisions(t *testing.T) {
	dc := dice(1)
	for range 40 {
		for template, skip := range bothWays {
			p := dc.drawn(dc.wide(), 1+dc.below(8), 2+dc.below(6))
			base, more := dc.below(50), dc.below(50)
			contexts := base + sizes[template] + 1 + more
			c, m := newCoder(t, contexts), newCoder(t, contexts)
			wantPut(t, c, base, p.plain(), template, skip, api.OK)
			modelPut(m, base, p.decisions(template, skip))
			wantSame(t, c, m)
		}
	}
}

// TestGetDecisions: P7.1, P7.2: a bitmap is got of decisions that were coded one by one; the decoder stands behind them then.
func TestGetDecisions(t *testing.T) {
	dc := dice(2)
	for range 40 {
		for template, skip := range bothWays {
			p := dc.drawn(dc.wide(), 1+dc.below(8), 2+dc.below(6))
			base := dc.below(50)
			contexts := base + sizes[template] + 1
			c := newCoder(t, contexts)
			modelPut(c, base, p.decisions(template, skip))
			states := c.States()
			f, _ := c.Flush()
			d := newDecoder(t, f, contexts)
			wantGet(t, d, base, template, skip, p)
			if !bytes.Equal(d.States(), states) {
				t.Fatal("other states than the coder's")
			}
		}
	}
}

// TestNearlySame: P7.1: a row that differs in one pixel alone is no row again; neither is one that is that two above.
func TestNearlySame(t *testing.T) {
	for _, w := range []int{1, 63, 64, 65, 130} {
		for x := range w {
			p := blank(w, 4)
			p[1][x], p[2][x] = 1, 1
			c, m := newCoder(t, 1025), newCoder(t, 1025)
			wantPut(t, c, 0, p.plain(), 3, true, api.OK)
			l := p.decisions(3, true)
			if len(l) != 4+2*w {
				t.Fatalf("the model has %d decisions", len(l))
			}
			modelPut(m, 0, l)
			wantSame(t, c, m)
		}
	}
}

// TestSaidTwice: P7.2: rows that were coded pixel by pixel, though they are those above, are got so.
func TestSaidTwice(t *testing.T) {
	p := raster("#.#", "#.#", "#.#")
	c := newCoder(t, 1025)
	for y := range p {
		c.Put(1024, 0)
		for x := range p[y] {
			c.Put(p.context(2, x, y), p[y][x])
		}
	}
	f, _ := c.Flush()
	wantGet(t, newDecoder(t, f, 1025), 0, 2, true, p)
	wantDecode(t, f, 2, true, p)
}

// TestPutRefused: P7.2: the first error that applies; nothing is coded beside it.
func TestPutRefused(t *testing.T) {
	one := black(1, 1).plain()
	for _, template := range append(wrongTemplates(), 0, 1, 2, 3) {
		wantPut(t, nil, -1, api.Bitmap{}, template, true, api.ErrWholeNone)
		wantPut(t, nil, 0, one, template, false, api.ErrWholeNone)
	}
	for good, size := range sizes {
		c := newCoder(t, size+5)
		for _, template := range wrongTemplates() {
			wantPut(t, c, -1, api.Bitmap{}, template, true, api.ErrGenericTemplate)
			wantPut(t, c, 0, one, template, false, api.ErrGenericTemplate)
		}
		for _, b := range wrongBitmaps() {
			wantPut(t, c, -1, b, good, true, api.ErrGenericForm)
			wantPut(t, c, 0, b, good, false, api.ErrGenericForm)
		}
		for _, base := range wrongBases(size) {
			wantPut(t, c, base, one, good, true, api.ErrWholeBase)
			wantPut(t, c, base, one, good, false, api.ErrWholeBase)
		}
		wantPut(t, c, 4, one, good, true, api.OK)
		m := newCoder(t, size+5)
		modelPut(m, 4, []decision{{size, 0}, {0, 1}})
		wantSame(t, c, m)
		wantPut(t, c, 5, one, good, true, api.ErrWholeBase)
		wantPut(t, c, 4, one, good, true, api.ErrArithDone)
		wantPut(t, c, 4, one, good, false, api.ErrArithDone)
		wantPut(t, newCoder(t, size), 0, one, good, false, api.ErrWholeBase) // the skip's is asked for, though it is not needed
	}
}

// wrongBases are none of a procedure in four contexts more than it has.
func wrongBases(size int) []int {
	return []int{-1, -2, 5, 6, size, size + 5, 1 << 31, 1 << 32, math.MinInt, math.MaxInt, math.MaxInt - size, math.MaxInt - size - 1, -size - 1}
}

// TestGetRefused: P7.2: the first error that applies; nothing is passed beside it.
func TestGetRefused(t *testing.T) {
	for _, template := range append(wrongTemplates(), 0, 1, 2, 3) {
		wantNotGot(t, nil, -1, 0, 0, template, true, api.ErrWholeNone)
		wantNotGot(t, nil, 0, 1, 1, template, false, api.ErrWholeNone)
	}
	for good, size := range sizes {
		p := raster("#..#", ".##.", ".##.")
		c := newCoder(t, size+5)
		wantPut(t, c, 4, p.plain(), good, true, api.OK)
		f, _ := c.Flush()
		d := newDecoder(t, f, size+5)
		for _, template := range wrongTemplates() {
			wantNotGot(t, d, -1, 0, 5, template, true, api.ErrGenericTemplate)
			wantNotGot(t, d, 0, 1, 1, template, false, api.ErrGenericTemplate)
		}
		for _, s := range wrongSizes() {
			wantNotGot(t, d, -1, s[0], s[1], good, true, api.ErrGenericArea)
			wantNotGot(t, d, 0, s[0], s[1], good, false, api.ErrGenericArea)
		}
		for _, base := range wrongBases(size) {
			wantNotGot(t, d, base, 4, 3, good, true, api.ErrWholeBase)
			wantNotGot(t, d, base, 4, 3, good, false, api.ErrWholeBase)
		}
		wantGet(t, d, 4, good, true, p)
		wantNotGot(t, newDecoder(t, f, size), 0, 1, 1, good, false, api.ErrWholeBase)
	}
}

// TestFull: P7.2: the coder's error, and the decoder's, within a bitmap: what was coded stays coded.
func TestFull(t *testing.T) {
	p := raster("#.#.", "#.#.", ".##.")
	l := p.decisions(3, true)
	const left = 8
	if len(l) <= left {
		t.Fatal("too few decisions for the test")
	}
	c, m := newCoder(t, 1025), newCoder(t, 1025)
	d, e := newDecoder(t, []byte{1, 2, 3}, 1025), newDecoder(t, []byte{1, 2, 3}, 1025)
	for range api.MaxDecisions - left {
		c.Put(7, 0)
		m.Put(7, 0)
		d.Get(7)
		e.Get(7)
	}
	wantPut(t, c, 0, p.plain(), 3, true, api.ErrArithFull)
	wantPut(t, c, 0, p.plain(), 3, true, api.ErrArithFull)
	wantPut(t, c, 0, p.plain(), 3, false, api.ErrArithFull)
	modelPut(m, 0, l[:left])
	wantSame(t, c, m)

	wantNotGot(t, d, 0, 50, 50, 3, false, api.ErrArithFull)
	wantNotGot(t, d, 0, 1, 1, 3, true, api.ErrArithFull)
	wantNotGot(t, d, 0, 1, 1, 3, false, api.ErrArithFull)
	modelGet(e, 0, left, 1, 3, false)
	if !bytes.Equal(d.States(), e.States()) {
		t.Error("other states than decision by decision")
	}
}

// TestLastDecision: P7.2: a bitmap that takes the last decisions is coded, and got.
func TestLastDecision(t *testing.T) {
	p := raster("##.", "##.", ".#.")
	left := len(p.decisions(2, true))
	c := newCoder(t, 1025)
	for range api.MaxDecisions - left {
		c.Put(7, 0)
	}
	wantPut(t, c, 0, p.plain(), 2, true, api.OK)
	wantPut(t, c, 0, p.plain(), 2, true, api.ErrArithFull)
	f, _ := c.Flush()
	d := newDecoder(t, f, 1025)
	for range api.MaxDecisions - left {
		d.Get(7)
	}
	wantGet(t, d, 0, 2, true, p)
	wantNotGot(t, d, 0, 1, 1, 2, true, api.ErrArithFull)
}

// TestEncode: P7.3: the bytes of a coder that has just the procedure's contexts.
func TestEncode(t *testing.T) {
	dc := dice(3)
	for range 30 {
		for template, skip := range bothWays {
			p := dc.drawn(dc.wide(), 1+dc.below(8), 2+dc.below(6))
			c, m := newCoder(t, sizes[template]+1), newCoder(t, sizes[template]+1)
			wantPut(t, c, 0, p.plain(), template, skip, api.OK)
			f, _ := c.Flush()
			modelPut(m, 0, p.decisions(template, skip))
			want, _ := m.Flush()
			if !bytes.Equal(f, want) {
				t.Fatal("other bytes than decision by decision")
			}
			wantEncode(t, p.plain(), template, skip, want, api.OK)
			wantDecode(t, want, template, skip, p)
		}
	}
}

// TestEncodeRefused: P7.3: the first error that applies.
func TestEncodeRefused(t *testing.T) {
	one := black(1, 1).plain()
	for _, skip := range []bool{false, true} {
		for _, template := range wrongTemplates() {
			wantEncode(t, api.Bitmap{}, template, skip, nil, api.ErrGenericTemplate)
			wantEncode(t, one, template, skip, nil, api.ErrGenericTemplate)
		}
		for template := range 4 {
			for _, b := range wrongBitmaps() {
				wantEncode(t, b, template, skip, nil, api.ErrGenericForm)
				if f, _ := generic.Encode(b, template, skip); f != nil {
					t.Fatal("bytes beside an error")
				}
			}
		}
	}
}

// TestDecodeRefused: P7.3: the first error that applies.
func TestDecodeRefused(t *testing.T) {
	for _, f := range [][]byte{nil, {1, 2, 3}} {
		for _, template := range wrongTemplates() {
			wantNotDecoded(t, f, 0, 5, template, api.ErrGenericTemplate)
			wantNotDecoded(t, f, 1, 1, template, api.ErrGenericTemplate)
		}
		for template := range 4 {
			for _, s := range wrongSizes() {
				wantNotDecoded(t, f, s[0], s[1], template, api.ErrGenericArea)
			}
		}
	}
}

// TestGreatest: P7.2: as many contexts as a coder has.
func TestGreatest(t *testing.T) {
	p := raster("#.#", ".#.")
	for template, skip := range bothWays {
		base := api.MaxContexts - sizes[template] - 1
		c := newCoder(t, api.MaxContexts)
		wantPut(t, c, base+1, p.plain(), template, skip, api.ErrWholeBase)
		wantPut(t, c, base, p.plain(), template, skip, api.OK)
		f, _ := c.Flush()
		d, _ := arith.NewDecoder(f, api.MaxContexts)
		wantNotGot(t, d, base+1, 3, 2, template, skip, api.ErrWholeBase)
		wantGet(t, d, base, template, skip, p)
	}
}
