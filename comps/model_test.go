package comps_test

import (
	"fmt"
	"math"
	"slices"
	"testing"

	"burin/api"
	"burin/bitmap"
	"burin/comps"
)

// pixels is a raster the plainest way: rows of noughts and ones.
type pixels [][]int

func blank(w, h int) pixels {
	p := make(pixels, h)
	for y := range p {
		p[y] = make([]int, w)
	}
	return p
}

// raster reads rows of # (black) and other signs (white).
func raster(rows ...string) pixels {
	p := blank(len(rows[0]), len(rows))
	for y, row := range rows {
		for x := range row {
			if row[x] == '#' {
				p[y][x] = 1
			}
		}
	}
	return p
}

// made is a raster whose pixels a rule says.
func made(w, h int, isBlack func(x, y int) bool) pixels {
	p := blank(w, h)
	for y := range p {
		for x := range p[y] {
			if isBlack(x, y) {
				p[y][x] = 1
			}
		}
	}
	return p
}

// plain packs the pixels, one by one.
func (p pixels) plain() api.Bitmap {
	w, h := len(p[0]), len(p)
	stride := (w + 63) / 64
	b := api.Bitmap{W: w, H: h, Bits: make([]uint64, h*stride)}
	for y, row := range p {
		for x, bit := range row {
			b.Bits[y*stride+x/64] |= uint64(bit) << (63 - x%64)
		}
	}
	return b
}

// taken is all pixels that are connected with (x, y), as a piece; they are white in p behind it. It goes from pixel to neighbour.
func (p pixels) taken(x, y int) api.Piece {
	p[y][x] = 0
	all := [][2]int{{x, y}}
	left, right, top, end := x, x, y, y
	for i := 0; i < len(all); i++ {
		x, y := all[i][0], all[i][1]
		left, right, top, end = min(left, x), max(right, x), min(top, y), max(end, y)
		for v := max(y-1, 0); v <= min(y+1, len(p)-1); v++ {
			for u := max(x-1, 0); u <= min(x+1, len(p[v])-1); u++ {
				if p[v][u] == 1 {
					p[v][u] = 0
					all = append(all, [2]int{u, v})
				}
			}
		}
	}
	q := blank(right+1-left, end+1-top)
	for _, at := range all {
		q[at[1]-top][at[0]-left] = 1
	}
	return piece(left, top, q)
}

// pieces are found one by one, in raster order.
func (p pixels) pieces() []api.Piece {
	q := p.copy()
	var l []api.Piece
	for y := range q {
		for x := range q[y] {
			if q[y][x] == 1 {
				l = append(l, q.taken(x, y))
			}
		}
	}
	return l
}

func (p pixels) copy() pixels {
	return made(len(p[0]), len(p), func(x, y int) bool { return p[y][x] == 1 })
}

// lay blackens the pixels that black ones of q come to.
func (p pixels) lay(q pixels, x, y int) {
	for v := range p {
		for u := range p[v] {
			j, okY := back(v, y, len(q))
			i, okX := back(u, x, len(q[0]))
			if okX && okY && q[j][i] == 1 {
				p[v][u] = 1
			}
		}
	}
}

// back tells to - from, and whether it is one of n places; a difference that might wrap is none.
func back(to, from, n int) (int, bool) {
	if from > to || from < -n {
		return 0, false
	}
	return to - from, to-from < n
}

func piece(x, y int, q pixels) api.Piece {
	return api.Piece{X: x, Y: y, B: q.plain()}
}

// dice tells numbers that are the same in each run.
type dice uint64

func (d *dice) below(n int) int {
	*d += 0x9e3779b97f4a7c15
	z := uint64(*d)
	z = (z ^ z>>30) * 0xbf58476d1ce4e5b9
	z = (z ^ z>>27) * 0x94d049bb133111eb
	return int((z ^ z>>31) % uint64(n))
}

// wide tells widths, those about whole words more often.
func (d *dice) wide() int {
	if d.below(2) == 0 {
		return []int{1, 2, 3, 62, 63, 64, 65, 127, 128, 129, 192}[d.below(11)]
	}
	return 1 + d.below(260)
}

// drawn is a raster of runs and gaps, each up to so many pixels long.
func (d *dice) drawn(w, h, long int) pixels {
	p := blank(w, h)
	for y := range p {
		bit, left := d.below(2), 0
		for x := range p[y] {
			if left == 0 {
				bit, left = 1-bit, 1+d.below(long)
			}
			p[y][x] = bit
			left--
		}
	}
	return p
}

// scattered is a raster of which about one of so many pixels is black.
func (d *dice) scattered(w, h, of int) pixels {
	return made(w, h, func(x, y int) bool { return d.below(of) == 0 })
}

// edges are numbers at the ends of all kinds.
func edges() []int {
	return []int{math.MinInt, math.MinInt + 1, -1 << 32, -65, -64, -2, -1, 0, 1, 2, 3, 4, 63, 64, 65, 1 << 20, 1<<20 + 1, 1 << 32, 1 << 62, math.MaxInt - 1, math.MaxInt}
}

// wrongBitmaps may not be.
func wrongBitmaps() []api.Bitmap {
	l := []api.Bitmap{
		{},
		{Bits: []uint64{0}},
		{W: 1, H: 1},
		{W: 1, H: 1, Bits: []uint64{0, 0}},
		{W: 1, H: 1, Bits: []uint64{1}},
		{W: 1, H: 1, Bits: []uint64{1 << 62}},
		{W: 63, H: 1, Bits: []uint64{1}},
		{W: 64, H: 1, Bits: []uint64{0, 0}},
		{W: 65, H: 1, Bits: []uint64{0}},
		{W: 65, H: 2, Bits: []uint64{0, 1, 0, 0}},
		{W: 65, H: 2, Bits: []uint64{0, 0, 0, 1 << 62}},
		{W: 65, H: 2, Bits: []uint64{0, 0, 0}},
		{W: 65, H: 2, Bits: []uint64{0, 0, 0, 0, 0}},
		{W: 64, H: 1<<14 + 1, Bits: make([]uint64, 1<<14+1)},
	}
	for _, w := range edges() {
		for _, h := range edges() {
			if w < 1 || h < 1 || w > api.MaxArea/h {
				l = append(l, api.Bitmap{W: w, H: h, Bits: []uint64{0}})
			}
		}
	}
	return l
}

func samePieces(a, b []api.Piece) bool {
	return slices.EqualFunc(a, b, func(p, q api.Piece) bool {
		return p.X == q.X && p.Y == q.Y && bitmap.Equal(p.B, q.B)
	})
}

// shown tells the places and sizes of the first pieces.
func shown(l []api.Piece) string {
	s := fmt.Sprint(len(l), " pieces")
	for _, p := range l[:min(len(l), 9)] {
		s += fmt.Sprintf("; %d %d, %d times %d", p.X, p.Y, p.B.W, p.B.H)
	}
	return s
}

func wantOf(t *testing.T, b api.Bitmap, want []api.Piece) {
	t.Helper()
	if l, err := comps.Of(b); err != api.OK || !samePieces(l, want) {
		t.Fatalf("Of(%d times %d): %s, error %d, want %s", b.W, b.H, shown(l), err, shown(want))
	}
}

func wantBack(t *testing.T, l []api.Piece, want api.Bitmap) {
	t.Helper()
	if b, err := comps.Back(l, want.W, want.H); err != api.OK || !bitmap.Equal(b, want) {
		t.Fatalf("Back(%s; %d, %d): error %d, or other pixels", shown(l), want.W, want.H, err)
	}
}

func wantNotBack(t *testing.T, l []api.Piece, w, h int) {
	t.Helper()
	if b, err := comps.Back(l, w, h); err != api.ErrCompsForm || b.W != 0 || b.H != 0 || b.Bits != nil {
		t.Fatalf("Back(%s; %d, %d): %d times %d, error %d", shown(l), w, h, b.W, b.H, err)
	}
}
