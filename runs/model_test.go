package runs_test

import (
	"math"
	"slices"
	"testing"

	"burin/api"
	"burin/bitmap"
	"burin/runs"
)

// pixels is a raster the plainest way: rows of noughts and ones.
type pixels [][]int

func blank(w, h int) pixels {
	p := make(pixels, h)
	for y := range p {
		p[y] = make([]int, w)
	}
	return p
}

// raster reads rows of # (black) and other signs (white).
func raster(rows ...string) pixels {
	p := blank(len(rows[0]), len(rows))
	for y, row := range rows {
		for x := range row {
			if row[x] == '#' {
				p[y][x] = 1
			}
		}
	}
	return p
}

// made is a raster whose pixels a rule says.
func made(w, h int, isBlack func(x, y int) bool) pixels {
	p := blank(w, h)
	for y := range p {
		for x := range p[y] {
			if isBlack(x, y) {
				p[y][x] = 1
			}
		}
	}
	return p
}

// plain packs the pixels, one by one.
func (p pixels) plain() api.Bitmap {
	w, h := len(p[0]), len(p)
	stride := (w + 63) / 64
	b := api.Bitmap{W: w, H: h, Bits: make([]uint64, h*stride)}
	for y, row := range p {
		for x, bit := range row {
			b.Bits[y*stride+x/64] |= uint64(bit) << (63 - x%64)
		}
	}
	return b
}

func (p pixels) count() int {
	n := 0
	for _, row := range p {
		for _, bit := range row {
			n += bit
		}
	}
	return n
}

// runs are the longest rows of neighbours, found pixel by pixel.
func (p pixels) runs() [][]api.Run {
	rows := make([][]api.Run, len(p))
	for y, row := range p {
		for x, bit := range row {
			if bit == 0 {
				continue
			}
			if x == 0 || row[x-1] == 0 {
				rows[y] = append(rows[y], run(x, x))
			}
			rows[y][len(rows[y])-1].To++
		}
	}
	return rows
}

// run is the pixels from up to, and without, to.
func run(from, to int) api.Run {
	return api.Run{From: from, To: to}
}

// dice tells numbers that are the same in each run.
type dice uint64

func (d *dice) below(n int) int {
	*d += 0x9e3779b97f4a7c15
	z := uint64(*d)
	z = (z ^ z>>30) * 0xbf58476d1ce4e5b9
	z = (z ^ z>>27) * 0x94d049bb133111eb
	return int((z ^ z>>31) % uint64(n))
}

// wide tells widths, those about whole words more often.
func (d *dice) wide() int {
	if d.below(2) == 0 {
		return []int{1, 2, 3, 62, 63, 64, 65, 127, 128, 129, 192}[d.below(11)]
	}
	return 1 + d.below(260)
}

// drawn is a raster of runs and gaps, each up to so many pixels long.
func (d *dice) drawn(w, h, long int) pixels {
	p := blank(w, h)
	for y := range p {
		bit, left := d.below(2), 0
		for x := range p[y] {
			if left == 0 {
				bit, left = 1-bit, 1+d.below(long)
			}
			p[y][x] = bit
			left--
		}
	}
	return p
}

// edges are numbers at the ends of all kinds.
func edges() []int {
	return []int{math.MinInt, math.MinInt + 1, -1 << 32, -65, -64, -2, -1, 0, 1, 2, 3, 4, 63, 64, 65, 1 << 20, 1<<20 + 1, 1 << 32, 1 << 62, math.MaxInt - 1, math.MaxInt}
}

// wrongBitmaps may not be.
func wrongBitmaps() []api.Bitmap {
	l := []api.Bitmap{
		{},
		{Bits: []uint64{0}},
		{W: 1, H: 1},
		{W: 1, H: 1, Bits: []uint64{0, 0}},
		{W: 1, H: 1, Bits: []uint64{1}},
		{W: 1, H: 1, Bits: []uint64{1 << 62}},
		{W: 63, H: 1, Bits: []uint64{1}},
		{W: 64, H: 1, Bits: []uint64{0, 0}},
		{W: 65, H: 1, Bits: []uint64{0}},
		{W: 65, H: 2, Bits: []uint64{0, 1, 0, 0}},
		{W: 65, H: 2, Bits: []uint64{0, 0, 0, 1 << 62}},
		{W: 65, H: 2, Bits: []uint64{0, 0, 0}},
		{W: 65, H: 2, Bits: []uint64{0, 0, 0, 0, 0}},
		{W: 64, H: 1<<14 + 1, Bits: make([]uint64, 1<<14+1)},
	}
	for _, w := range edges() {
		for _, h := range edges() {
			if w < 1 || h < 1 || w > api.MaxArea/h {
				l = append(l, api.Bitmap{W: w, H: h, Bits: []uint64{0}})
			}
		}
	}
	return l
}

func sameRows(a, b [][]api.Run) bool {
	return slices.EqualFunc(a, b, slices.Equal[[]api.Run])
}

func wantOf(t *testing.T, b api.Bitmap, want [][]api.Run) {
	t.Helper()
	if l, err := runs.Of(b); err != api.OK || !sameRows(l, want) {
		t.Fatalf("Of(%d times %d): %.200v, error %d, want %.200v", b.W, b.H, l, err, want)
	}
}

func wantBack(t *testing.T, rows [][]api.Run, w int, want api.Bitmap) {
	t.Helper()
	if b, err := runs.Back(rows, w); err != api.OK || !bitmap.Equal(b, want) {
		t.Fatalf("Back(%.200v, %d): error %d, or other pixels", rows, w, err)
	}
}

func wantNotBack(t *testing.T, rows [][]api.Run, w int) {
	t.Helper()
	if b, err := runs.Back(rows, w); err != api.ErrRunsForm || b.W != 0 || b.H != 0 || b.Bits != nil {
		t.Fatalf("Back(%.200v, %d): %d times %d, error %d", rows, w, b.W, b.H, err)
	}
}

// wantTouch asks both ways round.
func wantTouch(t *testing.T, a, b api.Run, want bool) {
	t.Helper()
	if runs.Touch(a, b) != want || runs.Touch(b, a) != want {
		t.Fatalf("Touch(%v, %v): not %v, or not both ways round", a, b, want)
	}
}
