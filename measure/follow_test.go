package measure_test

import (
	"math"
	"slices"
	"sync"
	"testing"

	"burin/api"
	"burin/bitmap"
	"burin/measure"
)

// TestBothWays: P11.8: Within goes both ways; each number is within each tolerance of itself, a NaN within none of anything.
func TestBothWays(t *testing.T) {
	d := dice(8)
	for range 20000 {
		a, b, tolerance := d.float(), d.float(), d.float()
		if measure.Within(a, b, tolerance) != measure.Within(b, a, tolerance) {
			t.Errorf("Within(%v, %v, %v), and the other way", a, b, tolerance)
		}
		_, err := measure.Tolerance(tolerance)
		if measure.Within(a, a, tolerance) != (err == api.OK && !math.IsNaN(a)) {
			t.Errorf("Within(%v, %v, %v)", a, a, tolerance)
		}
	}
}

// TestOrder: P11.8: Order is an order of all floats: that of their places among all floats.
func TestOrder(t *testing.T) {
	d := dice(9)
	for range 50000 {
		a, b := d.float(), d.float()
		want := 0
		if rank(a) < rank(b) {
			want = -1
		} else if rank(a) > rank(b) {
			want = 1
		}
		if got := measure.Order(a, b); got != want || measure.Order(b, a) != -want {
			t.Errorf("Order(%v, %v): %d, and the other way %d", a, b, got, measure.Order(b, a))
		}
	}
}

// TestSorted: P11.8: floats sorted by Order rise, whatever order they come in.
func TestSorted(t *testing.T) {
	d := dice(10)
	for range 300 {
		l := d.floats(50)
		slices.SortFunc(l, measure.Order)
		for i := range l[1:] {
			if rank(l[i]) > rank(l[i+1]) {
				t.Fatalf("%v ahead of %v", l[i], l[i+1])
			}
		}
	}
}

// TestAllCounted: P11.8: counts of Bins are as many as values.
func TestAllCounted(t *testing.T) {
	d := dice(11)
	for range 2000 {
		l, edges := d.floats(d.below(60)), d.rising(d.below(9))
		n, err := measure.Bins(l, edges)
		sum := 0
		for _, k := range n {
			sum += k
		}
		if err != api.OK || len(n) != len(edges)+2 || sum != len(l) {
			t.Fatalf("%d values, %d edges: %v, error %d", len(l), len(edges), n, err)
		}
	}
}

// TestManyValues: P11.7, P11.8: many values, edges among all of them.
func TestManyValues(t *testing.T) {
	const n = 1 << 17
	l := make([]float64, n)
	for i := range l {
		l[i] = float64(i * 40503 % n)
	}
	edges := make([]float64, n/2)
	want := make([]int, n/2+2)
	for i := range edges {
		edges[i] = float64(2*i + 1)
		want[i+1] = 2
	}
	want[0], want[n/2] = 1, 1
	wantBins(t, l, edges, want...)
}

// TestTurned: P11.8: the aspect of Turn is the quotient the other way round.
func TestTurned(t *testing.T) {
	d := dice(12)
	for range 300 {
		b := d.scattered(d.wide(), 1+d.below(40), 3).plain()
		m, _ := bitmap.From(b)
		turned, err := measure.Aspect(m.Turn().Plain())
		if err != api.OK || !same(turned, quotient(b.H, b.W)) {
			t.Fatalf("%d times %d, turned: %v, error %d", b.W, b.H, turned, err)
		}
	}
}

// TestUnlikeOfEqual: P11.8: Unlike is 0 just of equal bitmaps, and the same both ways.
func TestUnlikeOfEqual(t *testing.T) {
	d := dice(13)
	for range 1000 {
		w, h := 1+d.below(3), 1+d.below(3)
		a, b := d.scattered(w, h, 2).plain(), d.scattered(w, 1+d.below(3), 2).plain()
		x, e1 := measure.Unlike(a, b)
		y, e2 := measure.Unlike(b, a)
		if e1 != api.OK || e2 != api.OK || x != y || same(x, 0) != bitmap.Equal(a, b) {
			t.Fatalf("%v, %v: %v, %v, errors %d, %d", a, b, x, y, e1, e2)
		}
		wantUnlike(t, a, api.Bitmap{W: w, H: h, Bits: slices.Clone(a.Bits)}, 0)
	}
	for k := range 65 * 2 { // the last pixel counts, and each other one
		one := made(65, 2, func(x, y int) bool { return y*65+x == k }).plain()
		wantUnlike(t, one, blank(65, 2).plain(), 1.0/130)
	}
}

// TestBitmapsStay: P11.9 (R2): bitmaps stay as they are, behind their words, too, and nothing is read there.
func TestBitmapsStay(t *testing.T) {
	d := dice(14)
	for _, w := range []int{1, 63, 64, 65, 128} {
		p := d.scattered(w, 5, 2)
		b := p.plain()
		words := append(slices.Clone(b.Bits), ^uint64(0), ^uint64(0), 5)
		kept := slices.Clone(words)
		b.Bits = words[:len(b.Bits)]
		aspect, _ := measure.Aspect(b)
		density, _ := measure.Density(b)
		x, y, _ := measure.Center(b)
		count, sumX, sumY := p.sums()
		if !same(aspect, quotient(w, 5)) || !same(density, quotient(count, w*5)) || !same(x, quotient(sumX, count)) || !same(y, quotient(sumY, count)) {
			t.Errorf("%d wide: %v, %v, %v, %v", w, aspect, density, x, y)
		}
		wantUnlike(t, b, p.plain(), 0)
		wantUnlike(t, p.plain(), b, 0)
		if !slices.Equal(words, kept) {
			t.Errorf("%d wide: a bitmap was changed", w)
		}
	}
}

// TestListsStay: P11.9 (R2): lists stay as they are, behind their lengths, too, and nothing is read there; counts are new memory; nil and empty are one.
func TestListsStay(t *testing.T) {
	d := dice(15)
	all := []float64{3, noughts[0], -1, inf, 0, 7, nan, 2, 99, nan, -99}
	l := slices.Clone(all)
	edges := []float64{-1, 0, 3, 1, nan}
	wantMean(t, mean(all[:3]), l[:3]...)
	n, err := measure.Bins(l[:8], edges[:3])
	if err != api.OK || !slices.Equal(n, []int{0, 1, 3, 3, 1}) {
		t.Fatalf("%v, error %d", n, err)
	}
	if !slices.EqualFunc(l, all, same) || !slices.EqualFunc(edges, []float64{-1, 0, 3, 1, nan}, same) {
		t.Errorf("changed: %v, %v", l, edges)
	}
	clear(l)
	clear(edges)
	if !slices.Equal(n, []int{0, 1, 3, 3, 1}) {
		t.Errorf("an answer changed: %v", n)
	}
	clear(n[:cap(n)])
	wantBins(t, all[:8], []float64{-1, 0, 3}, 0, 1, 3, 3, 1)
	wantMean(t, nan, []float64{}...)
	wantBins(t, []float64{}, []float64{}, 0, 0)
	wantBins(t, d.floats(9)[:0], d.floats(9)[:0], 0, 0)

	both := []float64{1, 2, 4}
	wantBins(t, both, both, 0, 1, 1, 1, 0)
	if !slices.Equal(both, []float64{1, 2, 4}) {
		t.Errorf("changed: %v", both)
	}
}

// TestShared: P11.9 (R2): what is handed in is only read, by several at the same time, too (go test -race tells).
func TestShared(t *testing.T) {
	l, edges := []float64{5, 1, nan, -3, 2}, []float64{0, 2}
	b := raster("#..", ".##").plain()
	var all sync.WaitGroup
	for range 4 {
		all.Go(func() {
			n, _ := measure.Bins(l, edges)
			x, y, _ := measure.Center(b)
			u, _ := measure.Unlike(b, b)
			if !slices.Equal(n, []int{1, 1, 2, 1}) || x != 1 || y != 2.0/3 || u != 0 || !math.IsNaN(measure.Mean(l)) {
				t.Error("other answers")
			}
		})
	}
	all.Wait()
}

// TestNoPanic: P11.9 (R3): calls end, whatever is handed in; beside an error stands nothing.
func TestNoPanic(t *testing.T) {
	d := dice(16)
	one := func() int { return edges()[d.below(len(edges()))] }
	wild := func() api.Bitmap {
		b := api.Bitmap{W: one(), H: one(), Bits: make([]uint64, d.below(6))}
		for i := range b.Bits {
			b.Bits[i] = uint64(one())
		}
		return b
	}
	for range 5000 {
		a, b := wild(), wild()
		x, e1 := measure.Aspect(a)
		y, e2 := measure.Density(a)
		u, v, e3 := measure.Center(a)
		if ok := bitmap.Check(a); (e1 == api.OK) != ok || e2 != e1 || e3 != e1 || !ok && (e1 != api.ErrMeasureForm || x != 0 || y != 0 || u != 0 || v != 0) {
			t.Fatalf("%+v: %v, %v, %v, %v, errors %d, %d, %d", a, x, y, u, v, e1, e2, e3)
		}
		x, e1 = measure.Unlike(a, b)
		if ok := bitmap.Check(a) && bitmap.Check(b); (e1 == api.OK) != ok || !ok && (e1 != api.ErrMeasureForm || x != 0) {
			t.Fatalf("Unlike(%+v, %+v): %v, error %d", a, b, x, e1)
		}
		l, edges := d.floats(d.below(5)), d.floats(d.below(4))
		measure.Mean(l)
		if n, err := measure.Bins(l, edges); err == api.OK && len(n) != len(edges)+2 || err != api.OK && (err != api.ErrTolerance || n != nil) {
			t.Fatalf("Bins(%v, %v): %v, error %d", l, edges, n, err)
		}
	}
}
