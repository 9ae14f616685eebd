package measure_test

import (
	"math"
	"testing"

	"burin/api"
	"burin/measure"
)

// TestShareExample: P11.1: the chapter's examples.
func TestShareExample(t *testing.T) {
	wantShare(t, 1, 0, inf)
	wantShare(t, 0, 0, nan)
	wantShare(t, 0, -5, noughts[0])
	wantShare(t, -1, 3, -1.0/3)
}

// TestShare: P11.1: quotients are the exact ones, rounded once; by 0 there are infinities and NaNs; noughts have signs.
func TestShare(t *testing.T) {
	wantShare(t, -1, 0, -inf)
	wantShare(t, 1<<53, 0, inf)
	wantShare(t, -1<<53, 0, -inf)
	wantShare(t, 0, 5, noughts[1])
	wantShare(t, 0, 1<<53, noughts[1])
	wantShare(t, 0, -1<<53, noughts[0])
	wantShare(t, 10, 4, 2.5)
	wantShare(t, 1<<53, -1<<53, -1)
	wantShare(t, 1<<53-1, 1<<53, 1-0x1p-53)
	wantShare(t, 1, 1<<53, 0x1p-53)
	d := dice(1)
	for range 20000 {
		a, b := d.exact(), d.exact()
		wantShare(t, a, b, quotient(a, b))
	}
}

// TestShareRange: P11.1: numbers that are beyond 2^53 are refused, on both sides, ahead of a division by 0; those up to it aren't.
func TestShareRange(t *testing.T) {
	for _, n := range edges() {
		for _, d := range edges() {
			if max(n, d) <= 1<<53 && min(n, d) >= -1<<53 {
				wantShare(t, n, d, quotient(n, d))
			} else if x, err := measure.Share(n, d); err != api.ErrMeasureRange || !same(x, 0) {
				t.Errorf("Share(%d, %d): %v, error %d", n, d, x, err)
			}
		}
	}
}

// TestBitmaps: P11.2: measures of rasters of all kinds are those counted pixel by pixel.
func TestBitmaps(t *testing.T) {
	d := dice(2)
	for w := 1; w <= 260; w++ {
		wantMeasures(t, d.scattered(w, 1+d.below(20), 1+d.below(5)))
		wantMeasures(t, d.scattered(w, 1+d.below(5), w))
	}
}

// TestOnePixel: P11.2: the middle of a pixel is the pixel, wherever it stands.
func TestOnePixel(t *testing.T) {
	for _, w := range []int{1, 2, 63, 64, 65, 130} {
		for k := range w * 3 {
			b := made(w, 3, func(x, y int) bool { return y*w+x == k }).plain()
			if x, y, err := measure.Center(b); x != float64(k%w) || y != float64(k/w) || err != api.OK {
				t.Errorf("pixel %d %d of %d: %v, %v, error %d", k%w, k/w, w, x, y, err)
			}
		}
	}
}

// TestWhite: P11.2: a white bitmap has a density of 0, and no middle.
func TestWhite(t *testing.T) {
	for _, p := range []pixels{blank(1, 1), blank(70, 4), blank(64, 2)} {
		b := p.plain()
		if x, err := measure.Density(b); !same(x, 0) || err != api.OK {
			t.Errorf("Density: %v, error %d", x, err)
		}
		if x, y, err := measure.Center(b); !math.IsNaN(x) || !math.IsNaN(y) || err != api.OK {
			t.Errorf("Center: %v, %v, error %d", x, y, err)
		}
	}
}

// TestGreat: P11.2, P11.9: bitmaps of MaxArea pixels, all black: no sum wraps.
func TestGreat(t *testing.T) {
	for _, w := range []int{1, 64, 1 << 10, 1 << 20} {
		h := api.MaxArea / w
		p := made(w, h, func(x, y int) bool { return true })
		wantMeasures(t, p)
		wantUnlike(t, p.plain(), blank(w, h).plain(), 1)
	}
}

// TestUnlike: P11.2: of one size the share of unlike pixels, of unlike sizes +Inf, with as many pixels or words, too.
func TestUnlike(t *testing.T) {
	wantUnlike(t, raster("#.#").plain(), raster(".##").plain(), 2.0/3)
	for _, c := range [][2]pixels{
		{blank(2, 3), blank(3, 2)},
		{blank(2, 3), blank(2, 4)},
		{blank(2, 3), blank(3, 3)},
		{blank(64, 2), blank(128, 1)},
		{blank(64, 1), blank(63, 1)},
	} {
		wantUnlike(t, c[0].plain(), c[1].plain(), inf)
		wantUnlike(t, c[1].plain(), c[0].plain(), inf)
	}
	d := dice(3)
	for range 1000 {
		w, h := d.wide(), 1+d.below(9)
		p, q := d.scattered(w, h, 1+d.below(4)), d.scattered(w, h, 1+d.below(4))
		wantUnlike(t, p.plain(), q.plain(), quotient(p.differ(q), w*h))
	}
}

// TestWrongBitmaps: P11.2: bitmaps that may not be are refused, on either side, ahead of their sizes being unlike.
func TestWrongBitmaps(t *testing.T) {
	good := raster("#").plain()
	for _, b := range wrongBitmaps() {
		a, e1 := measure.Aspect(b)
		d, e2 := measure.Density(b)
		x, y, e3 := measure.Center(b)
		u, e4 := measure.Unlike(b, good)
		v, e5 := measure.Unlike(good, b)
		w, e6 := measure.Unlike(b, b)
		for i, err := range []api.Errno{e1, e2, e3, e4, e5, e6} {
			if err != api.ErrMeasureForm {
				t.Errorf("%d times %d: call %d: error %d", b.W, b.H, i, err)
			}
		}
		for i, x := range []float64{a, d, x, y, u, v, w} {
			if !same(x, 0) {
				t.Errorf("%d times %d: answer %d: %v", b.W, b.H, i, x)
			}
		}
	}
}
