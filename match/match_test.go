package match_test

import (
	"math"
	"slices"
	"testing"

	"burin/api"
	"burin/match"
)

// TestExample: P12.1: the chapter's examples.
func TestExample(t *testing.T) {
	dots := lines("#", ".", "#")
	wantClasses(t, dots, 0, 0, 1, 0)
	wantClasses(t, dots, 1, 0, 0, 0)
	wantClasses(t, dots, inf, 0, 0, 0)
	wantClasses(t, dots, 0.5, 0, 1, 0)
	wantClasses(t, dots, minus, 0, 1, 0)
	wantNoClasses(t, dots, nan, api.ErrTolerance)
	wantNoClasses(t, dots, -1, api.ErrTolerance)
}

// TestNone: P12.1, P12.2: of no bitmaps there are no classes.
func TestNone(t *testing.T) {
	for _, l := range [][]api.Bitmap{nil, {}} {
		wantClasses(t, l, 0)
		wantClasses(t, l, inf)
		wantOrder(t, l)
	}
}

// TestFirstClass: P12.1: the first class that is near enough is joined, though a later one is nearer, or equal.
func TestFirstClass(t *testing.T) {
	wantClasses(t, lines("####", "#...", "##..", "#...", "...."), 0.5, 0, 1, 0, 1, 1)
	wantClasses(t, lines("##..", "####", "..##", "####", "#..."), 0.5, 0, 0, 1, 0, 0)
	wantClasses(t, lines("####", "#...", "....", "...#", "##.."), 0.75, 0, 0, 1, 0, 0)
}

// TestClassBitmap: P12.1: what is held against a bitmap is the one that began the class, not those that have joined it.
func TestClassBitmap(t *testing.T) {
	wantClasses(t, lines("####", "###.", "##..", "#...", "...."), 0.25, 0, 0, 1, 1, 2)
	wantClasses(t, lines("###.", "####", "##..", "#..."), 0.25, 0, 0, 0, 1)
}

// TestSizes: P12.1: classes of other sizes are passed over, with as many pixels or words, too, whatever the tolerance.
func TestSizes(t *testing.T) {
	l := plains([]pixels{
		blank(2, 3), blank(3, 2), blank(6, 1), blank(1, 6), blank(2, 3),
		blank(64, 2), blank(128, 1), blank(63, 2), blank(65, 1), blank(64, 2), blank(65, 1), blank(3, 2),
	})
	for _, tolerance := range []float64{0, 0.5, 1, math.MaxFloat64, inf} {
		wantClasses(t, l, tolerance, 0, 1, 2, 3, 0, 4, 5, 6, 7, 4, 7, 1)
	}
	mixed := lines("##", "#", "..", ".", "#.", "#", "..")
	wantClasses(t, mixed, 0, 0, 1, 2, 3, 4, 1, 2)
	wantClasses(t, mixed, 0.5, 0, 1, 2, 3, 0, 1, 2)
	wantClasses(t, mixed, 1, 0, 1, 0, 1, 0, 1, 0)
}

// TestAtMost: P12.1: a share that is just the tolerance is near enough; the next float below is not. The share is the quotient rounded once, not the exact one: 1 / 3 is more than the float of it.
func TestAtMost(t *testing.T) {
	for n := 1; n <= 70; n++ {
		for k := range n + 1 {
			l := plains([]pixels{blank(n, 1), made(n, 1, func(x, y int) bool { return x < k })})
			share := float64(k) / float64(n)
			wantClasses(t, l, share, 0, 0)
			wantClasses(t, l, math.Nextafter(share, inf), 0, 0)
			if k > 0 {
				wantClasses(t, l, math.Nextafter(share, 0), 0, 1)
			}
		}
	}
}

// TestSmallTolerance: P12.1: the least float above 0 takes what 0 takes, even of the greatest bitmaps.
func TestSmallTolerance(t *testing.T) {
	for _, w := range []int{1, 1 << 10, 1 << 20} {
		white := api.Bitmap{W: w, H: api.MaxArea / w, Bits: make([]uint64, api.MaxArea/w*((w+63)/64))}
		one := api.Bitmap{W: white.W, H: white.H, Bits: slices.Clone(white.Bits)}
		one.Bits[len(one.Bits)-1] = 1 << (63 - (w-1)%64) // the last pixel
		l := []api.Bitmap{white, one, white, one}
		wantClasses(t, l, 0, 0, 1, 0, 1)
		wantClasses(t, l, 5e-324, 0, 1, 0, 1)
		wantClasses(t, l, 0x1p-20-0x1p-73, 0, 1, 0, 1)
		wantClasses(t, l, 0x1p-20, 0, 0, 0, 0)
	}
}

// TestClasses: P12.1: drawn pieces and tolerances, against classes found by the chapter's words.
func TestClasses(t *testing.T) {
	d := dice(1)
	for range 3000 {
		l, tolerance := d.pieces(d.below(30)), d.tolerance()
		wantMatching(t, plains(l), tolerance, classified(l, tolerance))
	}
}

// TestAllSmall: P12.1: all bitmaps of four pixels, in several orders, with each share that they have.
func TestAllSmall(t *testing.T) {
	d := dice(2)
	var l []pixels
	for n := range 16 {
		l = append(l,
			made(4, 1, func(x, y int) bool { return n>>x&1 == 1 }),
			made(2, 2, func(x, y int) bool { return n>>(2*y+x)&1 == 1 }),
			made(1, 4, func(x, y int) bool { return n>>y&1 == 1 }))
	}
	for range 50 {
		for i := range l {
			k := i + d.below(len(l)-i)
			l[i], l[k] = l[k], l[i]
		}
		for _, tolerance := range []float64{0, 0.25, 0.5, 0.75, 1} {
			wantMatching(t, plains(l), tolerance, classified(l, tolerance))
		}
	}
}

// TestWrongTolerances: P12.1: what is no tolerance is refused, ahead of bitmaps that may not be and of too many classes, and of no bitmaps, too.
func TestWrongTolerances(t *testing.T) {
	for _, x := range wrongTolerances() {
		wantNoClasses(t, nil, x, api.ErrTolerance)
		wantNoClasses(t, lines("#"), x, api.ErrTolerance)
		wantNoClasses(t, []api.Bitmap{{}}, x, api.ErrTolerance)
		wantNoClasses(t, append(counted(api.MaxSymbols+1), api.Bitmap{}), x, api.ErrTolerance)
	}
}

// TestWrongBitmaps: P12.1, P12.2: a bitmap that may not be is refused, wherever it stands.
func TestWrongBitmaps(t *testing.T) {
	good := lines("#", ".", "##")
	for _, b := range wrongBitmaps() {
		for at := range len(good) + 1 {
			l := slices.Insert(slices.Clone(good), at, b)
			wantNoClasses(t, l, 0, api.ErrMatchForm)
			wantNoClasses(t, l, inf, api.ErrMatchForm)
			wantNoOrder(t, l)
		}
		wantNoClasses(t, []api.Bitmap{b}, 0, api.ErrMatchForm)
		wantNoClasses(t, []api.Bitmap{b, b}, 0, api.ErrMatchForm)
		wantNoOrder(t, []api.Bitmap{b})
	}
}

// TestTooMany: P12.1: as many as MaxSymbols classes may be; one more is refused; what joins a class counts for none.
func TestTooMany(t *testing.T) {
	l := counted(api.MaxSymbols + 1)
	most := l[:api.MaxSymbols:api.MaxSymbols]
	class := make([]int, len(most))
	for i := range class {
		class[i] = i
	}
	wantClasses(t, most, 0, class...)
	wantClasses(t, append(most, most[0], most[4095], most[7]), 0, append(class, 0, 4095, 7)...)
	wantNoClasses(t, l, 0, api.ErrTooBig)
	wantNoClasses(t, append(most, lines("#")...), 0, api.ErrTooBig)
	wantNoClasses(t, append(most, most[0], most[1], l[4096], most[2]), 0, api.ErrTooBig)
	wantClasses(t, l, 1, make([]int, len(l))...)
	wantNoClasses(t, append(l, api.Bitmap{}), 0, api.ErrMatchForm) // told ahead of too many
}

// TestTooManySizes: P12.1: classes of all sizes count together, with a tolerance of +Inf, too.
func TestTooManySizes(t *testing.T) {
	var l []api.Bitmap
	var class []int
	for i := range api.MaxSymbols {
		l = append(l, blank(1+i%64, 1+i/64).plain())
		class = append(class, i)
	}
	wantClasses(t, l, inf, class...)
	wantClasses(t, append(l, l...), 0, append(class, class...)...)
	wantNoClasses(t, append(l, blank(65, 1).plain()), inf, api.ErrTooBig)
}

// TestManyBitmaps: P12.1, P12.2: bitmaps themselves are not bounded.
func TestManyBitmaps(t *testing.T) {
	const n = 1 << 18
	two := lines("#.", ".#")
	l := make([]api.Bitmap, n)
	class, order := make([]int, n), make([]int, n)
	for i := range l {
		l[i], class[i], order[i] = two[i%2], i%2, i
	}
	wantClasses(t, l, 0, class...)
	wantOrder(t, l, order...)
}

// TestOrderExample: P12.2: height goes ahead of width, width ahead of the number; pixels count for nothing.
func TestOrderExample(t *testing.T) {
	l := plains([]pixels{blank(1, 3), raster(".."), raster("#"), raster("##"), raster("."), blank(2, 2), blank(9, 1), blank(1, 2)})
	wantOrder(t, l, 2, 4, 1, 3, 6, 7, 5, 0)
	wantOrder(t, plains([]pixels{blank(1<<20, 1), blank(1, 1<<20), blank(1<<10, 1<<10), blank(1, 1)}), 3, 0, 2, 1)
}

// TestOrder: P12.2: drawn bitmaps, against those taken one by one.
func TestOrder(t *testing.T) {
	d := dice(3)
	for range 400 {
		var l []api.Bitmap
		for range d.below(80) {
			l = append(l, d.scattered(1+d.below(4), 1+d.below(4), 2).plain())
		}
		wantOrder(t, l, ordered(l)...)
	}
}

// TestOrderNoCap: P12.2: there is no greatest number of bitmaps that are sorted.
func TestOrderNoCap(t *testing.T) {
	var l []api.Bitmap
	var want []int
	for i := range 2 * api.MaxSymbols {
		l = append(l, counted(1)[0])
		want = append(want, i)
	}
	l[5000].W, want = 15, append([]int{5000}, slices.Delete(want, 5000, 5001)...)
	wantOrder(t, l, want...)
	if _, err := match.Classes(l, 0); err != api.OK {
		t.Errorf("error %d", err)
	}
}
