package match_test

import (
	"math"
	"math/big"
	"slices"
	"testing"

	"burin/api"
	"burin/bitmap"
	"burin/match"
)

var (
	nan   = math.NaN()
	inf   = math.Inf(1)
	minus = math.Copysign(0, -1)
)

// pixels is a raster the plainest way: rows of noughts and ones.
type pixels [][]int

func blank(w, h int) pixels {
	p := make(pixels, h)
	for y := range p {
		p[y] = make([]int, w)
	}
	return p
}

// raster reads rows of # (black) and other signs (white).
func raster(rows ...string) pixels {
	return made(len(rows[0]), len(rows), func(x, y int) bool { return rows[y][x] == '#' })
}

// made is a raster whose pixels a rule says.
func made(w, h int, isBlack func(x, y int) bool) pixels {
	p := blank(w, h)
	for y := range p {
		for x := range p[y] {
			if isBlack(x, y) {
				p[y][x] = 1
			}
		}
	}
	return p
}

// plain packs the pixels, one by one.
func (p pixels) plain() api.Bitmap {
	w, h := len(p[0]), len(p)
	stride := (w + 63) / 64
	b := api.Bitmap{W: w, H: h, Bits: make([]uint64, h*stride)}
	for y, row := range p {
		for x, bit := range row {
			b.Bits[y*stride+x/64] |= uint64(bit) << (63 - x%64)
		}
	}
	return b
}

func (p pixels) hasSizeOf(q pixels) bool {
	return len(p) == len(q) && len(p[0]) == len(q[0])
}

// unlike is the exact share of pixels that differ in two rasters of one size, rounded once.
func (p pixels) unlike(q pixels) float64 {
	n := 0
	for y, row := range p {
		for x, bit := range row {
			if bit != q[y][x] {
				n++
			}
		}
	}
	f, _ := big.NewRat(int64(n), int64(len(p)*len(p[0]))).Float64()
	return f
}

// plains packs several rasters.
func plains(l []pixels) []api.Bitmap {
	all := make([]api.Bitmap, 0, len(l))
	for _, p := range l {
		all = append(all, p.plain())
	}
	return all
}

// lines are rasters of one row each.
func lines(rows ...string) []api.Bitmap {
	var l []api.Bitmap
	for _, row := range rows {
		l = append(l, raster(row).plain())
	}
	return l
}

// counted are n bitmaps of one row, 16 wide, no two of them equal; n is at most 2^16.
func counted(n int) []api.Bitmap {
	l := make([]api.Bitmap, n)
	for i := range l {
		l[i] = api.Bitmap{W: 16, H: 1, Bits: []uint64{uint64(i) << 48}}
	}
	return l
}

// classified goes by the chapter's words: each raster, against each class's from the first on.
func classified(l []pixels, tolerance float64) api.Matching {
	var m api.Matching
	var reps []pixels
	for _, p := range l {
		class := slices.IndexFunc(reps, func(q pixels) bool {
			return p.hasSizeOf(q) && p.unlike(q) <= tolerance
		})
		if class < 0 {
			class = len(reps)
			reps = append(reps, p)
		}
		m.Class = append(m.Class, class)
	}
	m.Reps = plains(reps)
	return m
}

// ordered takes, again and again, the first of the lowest, and of these of the narrowest, that are left.
func ordered(l []api.Bitmap) []int {
	var numbers []int
	taken := make([]bool, len(l))
	for range l {
		best := -1
		for i, b := range l {
			if !taken[i] && (best < 0 || b.H < l[best].H || b.H == l[best].H && b.W < l[best].W) {
				best = i
			}
		}
		taken[best] = true
		numbers = append(numbers, best)
	}
	return numbers
}

// dice tells numbers that are the same in each run.
type dice uint64

func (d *dice) word() uint64 {
	*d += 0x9e3779b97f4a7c15
	z := uint64(*d)
	z = (z ^ z>>30) * 0xbf58476d1ce4e5b9
	z = (z ^ z>>27) * 0x94d049bb133111eb
	return z ^ z>>31
}

func (d *dice) below(n int) int {
	return int(d.word() % uint64(n))
}

// scattered is a raster of which about one of so many pixels is black.
func (d *dice) scattered(w, h, of int) pixels {
	return made(w, h, func(x, y int) bool { return d.below(of) == 0 })
}

// pieces are n rasters of few sizes, many of them near to one another, some equal.
func (d *dice) pieces(n int) []pixels {
	wide := []int{1, 2, 3, 7, 64, 65}
	var l []pixels
	for range n {
		if len(l) > 0 && d.below(3) > 0 {
			l = append(l, d.touched(l[d.below(len(l))]))
			continue
		}
		l = append(l, d.scattered(wide[d.below(len(wide))], 1+d.below(3), 1+d.below(4)))
	}
	return l
}

// touched is a raster with some pixels changed, or none.
func (d *dice) touched(p pixels) pixels {
	q := made(len(p[0]), len(p), func(x, y int) bool { return p[y][x] == 1 })
	for range d.below(4) {
		row := q[d.below(len(q))]
		row[d.below(len(row))] ^= 1
	}
	return q
}

// tolerance tells tolerances of all kinds, often just a share that pieces have.
func (d *dice) tolerance() float64 {
	n := 1 + d.below(200)
	share := float64(d.below(n+1)) / float64(n)
	l := []float64{0, minus, inf, 1, 5e-324, 1 - 0x1p-53, math.MaxFloat64, share, share, share, math.Nextafter(share, inf)}
	return l[d.below(len(l))]
}

// wild is a bitmap of any numbers; few of them may be.
func (d *dice) wild() api.Bitmap {
	one := func() int { return edges()[d.below(len(edges()))] }
	b := api.Bitmap{W: one(), H: one(), Bits: make([]uint64, d.below(6))}
	for i := range b.Bits {
		b.Bits[i] = uint64(one())
	}
	return b
}

// float tells floats of all kinds.
func (d *dice) float() float64 {
	switch d.below(3) {
	case 0:
		return wrongTolerances()[d.below(len(wrongTolerances()))]
	case 1:
		return math.Float64frombits(d.word())
	}
	return d.tolerance()
}

// wrongTolerances are none.
func wrongTolerances() []float64 {
	return []float64{nan, math.Float64frombits(0xfff8000000000000), math.Float64frombits(0x7ff0000000000001), -1, -5e-324, -0.5, -math.MaxFloat64, -inf}
}

// edges are numbers at the ends of all kinds.
func edges() []int {
	return []int{math.MinInt, math.MinInt + 1, -1 << 32, -65, -64, -2, -1, 0, 1, 2, 3, 4, 63, 64, 65, 1 << 20, 1<<20 + 1, 1 << 32, 1 << 62, math.MaxInt - 1, math.MaxInt}
}

// wrongBitmaps may not be.
func wrongBitmaps() []api.Bitmap {
	l := []api.Bitmap{
		{},
		{Bits: []uint64{0}},
		{W: 1, H: 1},
		{W: 1, H: 1, Bits: []uint64{0, 0}},
		{W: 1, H: 1, Bits: []uint64{1}},
		{W: 1, H: 1, Bits: []uint64{1 << 62}},
		{W: 63, H: 1, Bits: []uint64{1}},
		{W: 64, H: 1, Bits: []uint64{0, 0}},
		{W: 65, H: 1, Bits: []uint64{0}},
		{W: 65, H: 2, Bits: []uint64{0, 1, 0, 0}},
		{W: 65, H: 2, Bits: []uint64{0, 0, 0, 1 << 62}},
		{W: 65, H: 2, Bits: []uint64{0, 0, 0}},
		{W: 65, H: 2, Bits: []uint64{0, 0, 0, 0, 0}},
		{W: 64, H: 1<<14 + 1, Bits: make([]uint64, 1<<14+1)},
	}
	for _, w := range edges() {
		for _, h := range edges() {
			if w < 1 || h < 1 || w > api.MaxArea/h {
				l = append(l, api.Bitmap{W: w, H: h, Bits: []uint64{0}})
			}
		}
	}
	return l
}

func sameMatching(a, b api.Matching) bool {
	return slices.Equal(a.Class, b.Class) && slices.EqualFunc(a.Reps, b.Reps, bitmap.Equal)
}

// cloned is a copy that shares no memory.
func cloned(l []api.Bitmap) []api.Bitmap {
	var copies []api.Bitmap
	for _, b := range l {
		copies = append(copies, api.Bitmap{W: b.W, H: b.H, Bits: slices.Clone(b.Bits)})
	}
	return copies
}

func wantMatching(t *testing.T, l []api.Bitmap, tolerance float64, want api.Matching) {
	t.Helper()
	if m, err := match.Classes(l, tolerance); err != api.OK || !sameMatching(m, want) {
		t.Fatalf("Classes(%d bitmaps, %v): %v of %d, error %d, want %v of %d", len(l), tolerance, m.Class, len(m.Reps), err, want.Class, len(want.Reps))
	}
}

// wantClasses asks, too, that each class's bitmap is the first that has it.
func wantClasses(t *testing.T, l []api.Bitmap, tolerance float64, class ...int) {
	t.Helper()
	want := api.Matching{Class: class}
	for i, b := range l {
		if class[i] == len(want.Reps) {
			want.Reps = append(want.Reps, b)
		}
	}
	wantMatching(t, l, tolerance, want)
}

func wantNoClasses(t *testing.T, l []api.Bitmap, tolerance float64, want api.Errno) {
	t.Helper()
	if m, err := match.Classes(l, tolerance); err != want || m.Class != nil || m.Reps != nil {
		t.Fatalf("Classes(%d bitmaps, %v): %d of %d, error %d, want error %d", len(l), tolerance, len(m.Class), len(m.Reps), err, want)
	}
}

func wantOrder(t *testing.T, l []api.Bitmap, want ...int) {
	t.Helper()
	if got, err := match.Order(l); err != api.OK || !slices.Equal(got, want) {
		t.Fatalf("Order(%d bitmaps): %v, error %d, want %v", len(l), got, err, want)
	}
}

func wantNoOrder(t *testing.T, l []api.Bitmap) {
	t.Helper()
	if got, err := match.Order(l); err != api.ErrMatchForm || got != nil {
		t.Fatalf("Order(%d bitmaps): %v, error %d", len(l), got, err)
	}
}
