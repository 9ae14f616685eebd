package measure_test

import (
	"math"
	"math/big"
	"slices"
	"testing"

	"burin/api"
	"burin/measure"
)

// pixels is a raster the plainest way: rows of noughts and ones.
type pixels [][]int

func blank(w, h int) pixels {
	p := make(pixels, h)
	for y := range p {
		p[y] = make([]int, w)
	}
	return p
}

// raster reads rows of # (black) and other signs (white).
func raster(rows ...string) pixels {
	p := blank(len(rows[0]), len(rows))
	for y, row := range rows {
		for x := range row {
			if row[x] == '#' {
				p[y][x] = 1
			}
		}
	}
	return p
}

// made is a raster whose pixels a rule says.
func made(w, h int, isBlack func(x, y int) bool) pixels {
	p := blank(w, h)
	for y := range p {
		for x := range p[y] {
			if isBlack(x, y) {
				p[y][x] = 1
			}
		}
	}
	return p
}

// plain packs the pixels, one by one.
func (p pixels) plain() api.Bitmap {
	w, h := len(p[0]), len(p)
	stride := (w + 63) / 64
	b := api.Bitmap{W: w, H: h, Bits: make([]uint64, h*stride)}
	for y, row := range p {
		for x, bit := range row {
			b.Bits[y*stride+x/64] |= uint64(bit) << (63 - x%64)
		}
	}
	return b
}

// sums are, pixel by pixel, how many are black, and what their places come to.
func (p pixels) sums() (count, x, y int) {
	for v, row := range p {
		for u, bit := range row {
			count, x, y = count+bit, x+bit*u, y+bit*v
		}
	}
	return count, x, y
}

// differ counts the pixels that are unlike in two rasters of one size.
func (p pixels) differ(q pixels) int {
	n := 0
	for y, row := range p {
		for x, bit := range row {
			if bit != q[y][x] {
				n++
			}
		}
	}
	return n
}

// dice tells numbers that are the same in each run.
type dice uint64

func (d *dice) word() uint64 {
	*d += 0x9e3779b97f4a7c15
	z := uint64(*d)
	z = (z ^ z>>30) * 0xbf58476d1ce4e5b9
	z = (z ^ z>>27) * 0x94d049bb133111eb
	return z ^ z>>31
}

func (d *dice) below(n int) int {
	return int(d.word() % uint64(n))
}

// wide tells widths, those about whole words more often.
func (d *dice) wide() int {
	if d.below(2) == 0 {
		return []int{1, 2, 3, 62, 63, 64, 65, 127, 128, 129, 192}[d.below(11)]
	}
	return 1 + d.below(260)
}

// scattered is a raster of which about one of so many pixels is black.
func (d *dice) scattered(w, h, of int) pixels {
	return made(w, h, func(x, y int) bool { return d.below(of) == 0 })
}

// exact tells whole numbers of all lengths that are floats.
func (d *dice) exact() int {
	n := int(d.word() >> (11 + d.below(53)))
	return []int{n, -n, 1<<53 - n, n - 1<<53}[d.below(4)]
}

// float tells floats of all kinds: ends, any bits, small wholes and quarters.
func (d *dice) float() float64 {
	switch d.below(3) {
	case 0:
		return ends()[d.below(len(ends()))]
	case 1:
		return math.Float64frombits(d.word())
	}
	return float64(d.below(33)-16) / 4
}

func (d *dice) floats(n int) []float64 {
	l := make([]float64, n)
	for i := range l {
		l[i] = d.float()
	}
	return l
}

// rising tells edges that rise strictly.
func (d *dice) rising(n int) []float64 {
	l := slices.DeleteFunc(d.floats(n), math.IsNaN)
	slices.Sort(l)
	return slices.Compact(l) // by ==: one of -0 and +0 stays
}

var (
	nan     = math.NaN()
	inf     = math.Inf(1)
	noughts = []float64{math.Copysign(0, -1), 0}
)

// nans are NaNs of several forms.
func nans() []float64 {
	var l []float64
	for _, form := range []uint64{0x7ff8000000000000, 0xfff8000000000000, 0x7ff0000000000001, 0xfff0000000000001, 0x7fffffffffffffff, 0xffffffffffffffff, 0x7ff8000000000001} {
		l = append(l, math.Float64frombits(form))
	}
	return l
}

// numbers are floats at the ends of all kinds, no NaNs, in their order.
func numbers() []float64 {
	up := []float64{5e-324, 1e-323, 0x1p-1022 - 5e-324, 0x1p-1022, 1e-300, 0.1, 0.5, 1 - 0x1p-53, 1, 1 + 0x1p-52, 3, 1<<53 - 1, 1 << 53, 1<<53 + 2, 1e308, math.MaxFloat64, inf}
	l := make([]float64, 0, 2*len(up)+2)
	for i := len(up) - 1; i >= 0; i-- {
		l = append(l, -up[i])
	}
	return append(append(l, noughts...), up...)
}

func ends() []float64 {
	return append(numbers(), nans()...)
}

// edges are ints at the ends of all kinds.
func edges() []int {
	return []int{math.MinInt, math.MinInt + 1, -1<<53 - 1, -1 << 53, -1<<53 + 1, -1 << 32, -65, -64, -2, -1, 0, 1, 2, 3, 4, 63, 64, 65, 1 << 20, 1<<20 + 1, 1 << 32, 1<<53 - 1, 1 << 53, 1<<53 + 1, 1<<53 + 2, 1 << 62, math.MaxInt - 1, math.MaxInt}
}

// wrongBitmaps may not be.
func wrongBitmaps() []api.Bitmap {
	l := []api.Bitmap{
		{},
		{Bits: []uint64{0}},
		{W: 1, H: 1},
		{W: 1, H: 1, Bits: []uint64{0, 0}},
		{W: 1, H: 1, Bits: []uint64{1}},
		{W: 1, H: 1, Bits: []uint64{1 << 62}},
		{W: 63, H: 1, Bits: []uint64{1}},
		{W: 64, H: 1, Bits: []uint64{0, 0}},
		{W: 65, H: 1, Bits: []uint64{0}},
		{W: 65, H: 2, Bits: []uint64{0, 1, 0, 0}},
		{W: 65, H: 2, Bits: []uint64{0, 0, 0, 1 << 62}},
		{W: 65, H: 2, Bits: []uint64{0, 0, 0}},
		{W: 65, H: 2, Bits: []uint64{0, 0, 0, 0, 0}},
		{W: 64, H: 1<<14 + 1, Bits: make([]uint64, 1<<14+1)},
	}
	for _, w := range edges() {
		for _, h := range edges() {
			if w < 1 || h < 1 || w > api.MaxArea/h {
				l = append(l, api.Bitmap{W: w, H: h, Bits: []uint64{0}})
			}
		}
	}
	return l
}

// same tells whether two floats are one, noughts by their signs; all NaNs are one.
func same(a, b float64) bool {
	return math.IsNaN(a) && math.IsNaN(b) || a == b && math.Signbit(a) == math.Signbit(b)
}

// quotient is the exact one, rounded once.
func quotient(n, d int) float64 {
	switch {
	case d != 0 && n != 0:
		f, _ := big.NewRat(int64(n), int64(d)).Float64()
		return f
	case d > 0:
		return noughts[1]
	case d < 0:
		return noughts[0]
	case n > 0:
		return inf
	case n < 0:
		return -inf
	}
	return nan
}

func isFinite(x float64) bool {
	return !math.IsNaN(x) && !math.IsInf(x, 0)
}

func rat(x float64) *big.Rat {
	return new(big.Rat).SetFloat64(x)
}

// added is the exact sum, rounded once.
func added(a, b float64) float64 {
	switch {
	case math.IsNaN(a) || math.IsNaN(b) || math.IsInf(a, 0) && a == -b:
		return nan
	case !isFinite(a):
		return a
	case !isFinite(b):
		return b
	case same(a, noughts[0]):
		return b // two of -0 are -0; Rat knows no signed noughts
	}
	f, _ := new(big.Rat).Add(rat(a), rat(b)).Float64()
	return f
}

// parted is the exact quotient of a float and a number of values, rounded once.
func parted(x float64, n int) float64 {
	if !isFinite(x) || x == 0 {
		return x
	}
	f, _ := new(big.Rat).Quo(rat(x), big.NewRat(int64(n), 1)).Float64()
	if f == 0 {
		return math.Copysign(f, x)
	}
	return f
}

// mean adds the values up one by one.
func mean(l []float64) float64 {
	if len(l) == 0 {
		return nan
	}
	sum := l[0]
	for _, v := range l[1:] {
		sum = added(sum, v)
	}
	return parted(sum, len(l))
}

// isNear is the chapter's words one by one.
func isNear(a, b, tolerance float64) bool {
	if !isTolerance(tolerance) || math.IsNaN(a) || math.IsNaN(b) {
		return false
	}
	if a == b {
		return true
	}
	if !isFinite(a) || !isFinite(b) {
		return tolerance == inf
	}
	return math.Abs(added(a, -b)) <= tolerance
}

func isTolerance(x float64) bool {
	return x >= 0
}

// rank is a float's place among all floats.
func rank(x float64) int64 {
	form := int64(math.Float64bits(x))
	switch {
	case math.IsNaN(x):
		return math.MaxInt64
	case form < 0:
		return ^(form & math.MaxInt64)
	}
	return form
}

// binned puts the values one by one into the bin behind the last edge that is not above them.
func binned(l, edges []float64) []int {
	n := make([]int, len(edges)+2)
	for _, v := range l {
		bin := len(edges) + 1
		if !math.IsNaN(v) {
			bin = 0
			for bin < len(edges) && edges[bin] <= v {
				bin++
			}
		}
		n[bin]++
	}
	return n
}

func wantShare(t *testing.T, n, d int, want float64) {
	t.Helper()
	if x, err := measure.Share(n, d); err != api.OK || !same(x, want) {
		t.Fatalf("Share(%d, %d): %v, error %d, want %v", n, d, x, err, want)
	}
}

// wantMeasures holds a bitmap's measures against those that are counted pixel by pixel.
func wantMeasures(t *testing.T, p pixels) {
	t.Helper()
	b := p.plain()
	count, sumX, sumY := p.sums()
	if x, err := measure.Aspect(b); err != api.OK || !same(x, quotient(b.W, b.H)) {
		t.Fatalf("Aspect(%d times %d): %v, error %d", b.W, b.H, x, err)
	}
	if x, err := measure.Density(b); err != api.OK || !same(x, quotient(count, b.W*b.H)) {
		t.Fatalf("Density(%d times %d, %d black): %v, error %d", b.W, b.H, count, x, err)
	}
	if x, y, err := measure.Center(b); err != api.OK || !same(x, quotient(sumX, count)) || !same(y, quotient(sumY, count)) {
		t.Fatalf("Center(%d times %d): %v, %v, error %d, want %d and %d by %d", b.W, b.H, x, y, err, sumX, sumY, count)
	}
}

func wantUnlike(t *testing.T, a, b api.Bitmap, want float64) {
	t.Helper()
	if x, err := measure.Unlike(a, b); err != api.OK || !same(x, want) {
		t.Fatalf("Unlike(%d times %d, %d times %d): %v, error %d, want %v", a.W, a.H, b.W, b.H, x, err, want)
	}
}

func wantMean(t *testing.T, want float64, l ...float64) {
	t.Helper()
	if x := measure.Mean(l); !same(x, want) {
		t.Fatalf("Mean(%v): %v, want %v", l, x, want)
	}
}

func wantBins(t *testing.T, l, edges []float64, want ...int) {
	t.Helper()
	if n, err := measure.Bins(l, edges); err != api.OK || !slices.Equal(n, want) {
		t.Fatalf("Bins(%v, %v): %v, error %d, want %v", l, edges, n, err, want)
	}
}

func wantNoBins(t *testing.T, l, edges []float64) {
	t.Helper()
	if n, err := measure.Bins(l, edges); err != api.ErrTolerance || n != nil {
		t.Fatalf("Bins(%v, %v): %v, error %d", l, edges, n, err)
	}
}
