package measure_test

import (
	"math"
	"testing"

	"burin/api"
	"burin/measure"
)

// TestTolerance: P11.3: NaNs and what is below 0 are refused; -0 is +0; all else is told as it is.
func TestTolerance(t *testing.T) {
	for _, x := range ends() {
		want, refused := x, api.OK
		switch {
		case math.IsNaN(x) || x < 0:
			want, refused = 0, api.ErrTolerance
		case x == 0:
			want = noughts[1]
		}
		if got, err := measure.Tolerance(x); err != refused || !same(got, want) {
			t.Errorf("Tolerance(%v): %v, error %d", x, got, err)
		}
	}
}

// TestWithinExample: P11.4: the chapter's examples, and edges of its words.
func TestWithinExample(t *testing.T) {
	minus, plus := noughts[0], noughts[1]
	for _, c := range []struct {
		a, b, tolerance float64
		want            bool
	}{
		{inf, -inf, inf, true},
		{inf, inf, 0, true},
		{-inf, -inf, minus, true},
		{1, nan, inf, false},
		{nan, nan, inf, false},
		{inf, -inf, math.MaxFloat64, false},
		{inf, 1, math.MaxFloat64, false},
		{inf, 1, inf, true},
		{plus, minus, 0, true},
		{plus, minus, minus, true},
		{1, 2, 1, true},
		{1, 2, 1 - 0x1p-53, false},
		{0, 5e-324, 5e-324, true},
		{0, 5e-324, 0, false},
		{1, 1, nan, false},
		{1, 1, -1, false},
		{1, 1, -5e-324, false},
		{1, 1, -inf, false},
		{math.MaxFloat64, -math.MaxFloat64, math.MaxFloat64, false}, // the amount is +Inf
		{math.MaxFloat64, -math.MaxFloat64, inf, true},
		{0.3, 0.1, 0.2, true}, // as floats subtract: just below 0.2
		{1 << 53, -1, 1 << 53, true},
	} {
		if measure.Within(c.a, c.b, c.tolerance) != c.want {
			t.Errorf("Within(%v, %v, %v)", c.a, c.b, c.tolerance)
		}
	}
}

// TestWithin: P11.4: all ends against each other, and drawn floats, by differences that are exact ahead of being rounded.
func TestWithin(t *testing.T) {
	ask := func(a, b, tolerance float64) {
		if measure.Within(a, b, tolerance) != isNear(a, b, tolerance) {
			t.Errorf("Within(%v, %v, %v): want %v", a, b, tolerance, isNear(a, b, tolerance))
		}
	}
	for _, a := range ends() {
		for _, b := range ends() {
			for _, tolerance := range ends() {
				ask(a, b, tolerance)
			}
		}
	}
	d := dice(4)
	for range 20000 {
		ask(d.float(), d.float(), d.float())
	}
}

// TestOrderEnds: P11.5: all ends stand in their order; NaNs of all forms are one, and last.
func TestOrderEnds(t *testing.T) {
	all := numbers()
	for i, a := range all {
		for k, b := range all {
			want := 0
			if i < k {
				want = -1
			} else if i > k {
				want = 1
			}
			if got := measure.Order(a, b); got != want {
				t.Errorf("Order(%v, %v): %d", a, b, got)
			}
		}
		for _, n := range nans() {
			if measure.Order(a, n) != -1 || measure.Order(n, a) != 1 {
				t.Errorf("%v against a NaN: %d, %d", a, measure.Order(a, n), measure.Order(n, a))
			}
		}
	}
	for _, a := range nans() {
		for _, b := range nans() {
			if measure.Order(a, b) != 0 {
				t.Errorf("two NaNs: %d", measure.Order(a, b))
			}
		}
	}
}

// TestMeanExample: P11.6: the chapter's examples, and edges of its words: sums that go over, values that would give another sum in another order, signed noughts.
func TestMeanExample(t *testing.T) {
	minus, plus := noughts[0], noughts[1]
	wantMean(t, minus, minus)
	wantMean(t, nan, inf, -inf)
	wantMean(t, nan)
	wantMean(t, plus, plus)
	wantMean(t, minus, minus, minus, minus)
	wantMean(t, plus, minus, plus)
	wantMean(t, plus, plus, minus)
	wantMean(t, plus, 1, -1)
	wantMean(t, inf, 1, inf, 2)
	wantMean(t, -inf, -inf, 1e308)
	wantMean(t, inf, math.MaxFloat64, math.MaxFloat64, -math.MaxFloat64)
	wantMean(t, math.MaxFloat64/3, math.MaxFloat64, -math.MaxFloat64, math.MaxFloat64)
	wantMean(t, 0.25, 1, 1e100, -1e100, 1)
	wantMean(t, 0.5, 1e100, -1e100, 1, 1)
	wantMean(t, 7.0/3, 1, 2, 4)
	wantMean(t, plus, 5e-324, plus)
	wantMean(t, minus, -5e-324, minus)
	wantMean(t, 1e-323, 1e-323, 1e-323)
	for i := range 3 {
		for _, n := range nans() {
			l := []float64{1, inf, 2}
			l[i] = n
			wantMean(t, nan, l...)
		}
	}
}

// TestMean: P11.6: drawn values, by sums and a quotient each of which is exact ahead of being rounded.
func TestMean(t *testing.T) {
	d := dice(5)
	for range 20000 {
		l := make([]float64, d.below(9))
		for i := range l {
			l[i] = []float64{float64(d.below(2000)-1000) / 7, d.float()}[d.below(2)]
		}
		wantMean(t, mean(l), l...)
	}
}

// TestBinsExample: P11.7: the chapter's example, and edges of its words.
func TestBinsExample(t *testing.T) {
	minus, plus := noughts[0], noughts[1]
	wantBins(t, []float64{-1, 0, minus, 5, nan}, []float64{0, 5}, 1, 2, 1, 1)
	wantBins(t, nil, nil, 0, 0)
	wantBins(t, nil, []float64{1, 2, 3}, 0, 0, 0, 0, 0)
	wantBins(t, []float64{1, nan, -inf, inf, nan, minus}, nil, 4, 2)
	wantBins(t, []float64{minus, plus, -5e-324, 5e-324}, []float64{minus}, 1, 3, 0)
	wantBins(t, []float64{minus, plus, -5e-324, 5e-324}, []float64{plus}, 1, 3, 0)
	wantBins(t, []float64{minus, plus, -5e-324, 5e-324}, []float64{5e-324}, 3, 1, 0)
	wantBins(t, []float64{-inf, -math.MaxFloat64, 0, math.MaxFloat64, inf}, []float64{-inf, inf}, 0, 4, 1, 0)
	wantBins(t, []float64{-inf, inf, inf}, []float64{-inf}, 0, 3, 0)
	wantBins(t, []float64{-inf, inf, inf}, []float64{inf}, 1, 2, 0)
	wantBins(t, []float64{3, 1, 2, 2, 1, 3, 3, 0.5}, []float64{1, 2, 3}, 1, 2, 2, 3, 0)
	wantBins(t, nans(), []float64{-1, 1}, 0, 0, 0, len(nans()))
}

// TestBins: P11.7: drawn values and edges, each value put into its bin by itself.
func TestBins(t *testing.T) {
	d := dice(6)
	for range 5000 {
		l, edges := d.floats(d.below(40)), d.rising(d.below(12))
		wantBins(t, l, edges, binned(l, edges)...)
	}
}

// TestWrongEdges: P11.7: edges that don't rise strictly, or of which one is a NaN, are refused, whatever the values.
func TestWrongEdges(t *testing.T) {
	minus, plus := noughts[0], noughts[1]
	for _, l := range [][]float64{nil, {1}, {nan, 2, -inf}} {
		for _, edges := range [][]float64{
			{1, 1}, {2, 1}, {1, 2, 2}, {1, 3, 2}, {1, 2, 1}, {5, 1, 2, 3},
			{minus, plus}, {plus, minus}, {plus, plus}, {minus, minus}, {-1, minus, plus, 1},
			{inf, inf}, {-inf, -inf}, {inf, -inf}, {inf, 1}, {1, -inf},
		} {
			wantNoBins(t, l, edges)
		}
		for _, n := range nans() {
			for _, edges := range [][]float64{{n}, {n, 1}, {1, n}, {1, n, 2}, {n, n}, {1, 2, n}, {inf, n}} {
				wantNoBins(t, l, edges)
			}
		}
	}
	d := dice(7)
	for range 2000 {
		edges := d.rising(10)
		if len(edges) < 2 {
			continue
		}
		i := d.below(len(edges) - 1)
		edges[i], edges[i+1] = edges[i+1], edges[i]
		wantNoBins(t, d.floats(3), edges)
		edges[i] = edges[i+1]
		wantNoBins(t, d.floats(3), edges)
	}
}
