package comps_test

import (
	"math"
	"testing"

	"burin/api"
	"burin/comps"
)

// TestExample: P10.1, P10.2: the chapter's examples.
func TestExample(t *testing.T) {
	dot := raster("#")
	whole := raster("#.#", ".#.")
	wantOf(t, whole.plain(), []api.Piece{piece(0, 0, whole)})
	wantOf(t, raster("#.#").plain(), []api.Piece{piece(0, 0, dot), piece(2, 0, dot)})
	wantOf(t, raster("..#", "#.#").plain(), []api.Piece{piece(2, 0, raster("#", "#")), piece(0, 1, dot)})
}

// TestShapes: P10.1, P10.2: what goes round something else holds no pixel of it; what is joined far below, or slantwise, is one piece.
func TestShapes(t *testing.T) {
	ring := raster(
		"#####",
		"#...#",
		"#...#",
		"#...#",
		"#####")
	eye := ring.copy()
	eye[2][2] = 1
	wantOf(t, eye.plain(), []api.Piece{piece(0, 0, ring), piece(2, 2, raster("#"))})

	for _, p := range []pixels{
		raster("#.#.#.#", "#.#.#.#", "#######"),
		raster("...#.", "#.#.#", ".#..#", "....#"),
		raster("#...#", ".#.#.", "..#..", ".#.#.", "#...#"),
		raster("......#", "#..#..#", "#..#..#", "#..####", "####..."),
		raster("#####.", ".....#", "#####.", ".....#", "#####."),
	} {
		if l := p.pieces(); len(l) != 1 {
			t.Fatalf("the model tells %s", shown(l))
		}
		wantOf(t, p.plain(), p.pieces())
	}

	bent := raster(".#", "#.", "#.", ".#")
	wantOf(t, raster("..#..", ".#..#", ".#..#", "..#..").plain(), []api.Piece{piece(1, 0, bent), piece(4, 1, raster("#", "#"))})
}

// TestOf: P10.1, P10.2: the pieces of rasters of all kinds are those found pixel by pixel.
func TestOf(t *testing.T) {
	d := dice(1)
	for range 1500 {
		p := d.scattered(d.wide(), 1+d.below(25), 2+d.below(7))
		wantOf(t, p.plain(), p.pieces())
		p = d.drawn(d.wide(), 1+d.below(9), []int{1, 2, 5, 70}[d.below(4)])
		wantOf(t, p.plain(), p.pieces())
	}
}

// TestOrder: P10.2: a piece that comes further to the left, or stands further left, is told behind one whose first pixel comes sooner.
func TestOrder(t *testing.T) {
	p := raster(
		"........#..",
		"#......#...",
		"......#..#.",
		".#...#.....",
		"...........",
		"#..#......#")
	dot := raster("#")
	wantOf(t, p.plain(), []api.Piece{
		piece(5, 0, raster("...#", "..#.", ".#..", "#...")),
		piece(0, 1, dot), piece(9, 2, dot), piece(1, 3, dot),
		piece(0, 5, dot), piece(3, 5, dot), piece(10, 5, dot),
	})
}

// TestWhite: P10.2: no black pixel, no piece.
func TestWhite(t *testing.T) {
	for _, w := range []int{1, 63, 64, 65, 300} {
		wantOf(t, blank(w, 3).plain(), nil)
	}
}

// TestEdgesApart: P10.1: a row's end and the next row's beginning are no neighbours; nor are the first row and the last.
func TestEdgesApart(t *testing.T) {
	for _, w := range []int{3, 63, 64, 65, 128, 129} {
		p := made(w, 5, func(x, y int) bool { return x == w-1 && y == 0 || x == 0 && y == 1 || x == w-1 && y == 4 })
		dot := raster("#")
		wantOf(t, p.plain(), []api.Piece{piece(w-1, 0, dot), piece(0, 1, dot), piece(w-1, 4, dot)})
	}
}

// TestOfRefused: P10.2: bitmaps that may not be.
func TestOfRefused(t *testing.T) {
	for i, b := range wrongBitmaps() {
		if l, err := comps.Of(b); l != nil || err != api.ErrCompsForm {
			t.Errorf("wrong bitmap %d: %s, error %d", i, shown(l), err)
		}
	}
}

// TestGreatest: P10.2, P10.3: bitmaps of MaxArea pixels: one great piece, one of many runs, as many pieces as there may be.
func TestGreatest(t *testing.T) {
	for _, size := range [][2]int{{api.MaxArea, 1}, {1, api.MaxArea}, {1024, 1024}, {349525, 3}} {
		w, h := size[0], size[1]
		for _, c := range []struct {
			isBlack func(x, y int) bool
			n       int
		}{
			{func(x, y int) bool { return true }, 1},
			{func(x, y int) bool { return x%2 == 0 && y%2 == 0 }, (w + 1) / 2 * ((h + 1) / 2)},
			{func(x, y int) bool { return x%2 == 0 || y == h-1 }, 1},
			{func(x, y int) bool { return x%2 == 0 || y == 0 }, 1},
		} {
			b := made(w, h, c.isBlack).plain()
			l, err := comps.Of(b)
			if err != api.OK || len(l) != c.n {
				t.Fatalf("%d times %d: %d pieces, error %d, want %d", w, h, len(l), err, c.n)
			}
			wantBack(t, l, b)
		}
	}
}

// TestNested: P10.1, P10.2: pieces within pieces, each of nearly the whole size.
func TestNested(t *testing.T) {
	const n = 1024
	p := made(n, n, func(x, y int) bool { return min(x, y, n-1-x, n-1-y)%2 == 0 })
	l, err := comps.Of(p.plain())
	if err != api.OK || len(l) != n/4 {
		t.Fatalf("%d pieces, error %d", len(l), err)
	}
	for i, q := range l {
		if q.X != 2*i || q.Y != 2*i || q.B.W != n-4*i || q.B.H != n-4*i {
			t.Fatalf("piece %d: %d %d, %d times %d", i, q.X, q.Y, q.B.W, q.B.H)
		}
	}
	wantBack(t, l, p.plain())
}

// TestBack: P10.3: pieces at places of all kinds, over one another and over the edges.
func TestBack(t *testing.T) {
	d := dice(2)
	for range 1500 {
		p := blank(d.wide(), 1+d.below(9))
		var l []api.Piece
		for range d.below(6) {
			q := d.drawn(d.wide(), 1+d.below(9), 1+d.below(9))
			x, y := d.below(400)-200, d.below(30)-15
			p.lay(q, x, y)
			l = append(l, piece(x, y, q))
		}
		wantBack(t, l, p.plain())
	}
}

// TestBackFar: P10.3: places may be any ints; sums of them don't wrap.
func TestBackFar(t *testing.T) {
	q := made(70, 3, func(x, y int) bool { return true })
	for _, x := range edges() {
		for _, y := range edges() {
			p := blank(66, 4)
			p.lay(q, x, y)
			wantBack(t, []api.Piece{piece(x, y, q)}, p.plain())
		}
	}
	far := []api.Piece{piece(math.MinInt, 0, q), piece(0, math.MaxInt, q), piece(math.MaxInt, math.MinInt, q)}
	wantBack(t, far, blank(66, 4).plain())
}

// TestBackOr: P10.3: a white pixel of a piece lets stand what is there; a piece may be white, or laid twice.
func TestBackOr(t *testing.T) {
	black, hole := raster("###", "###", "###"), raster("###", "#.#", "###")
	wantBack(t, []api.Piece{piece(0, 0, black), piece(0, 0, hole)}, black.plain())
	wantBack(t, []api.Piece{piece(0, 0, hole), piece(0, 0, hole), piece(0, 0, blank(3, 3))}, hole.plain())
	wantBack(t, []api.Piece{piece(1, 1, raster("#")), piece(0, 0, hole)}, black.plain())
}

// TestBackNone: P10.3: no pieces: a white bitmap, of each size that may be.
func TestBackNone(t *testing.T) {
	for _, size := range [][2]int{{1, 1}, {64, 2}, {65, 2}, {1, api.MaxArea}, {api.MaxArea, 1}, {1024, 1024}} {
		white := blank(size[0], size[1]).plain()
		wantBack(t, nil, white)
		wantBack(t, []api.Piece{}, white)
	}
}

// TestBackRefused: P10.3: sizes that no bitmap has, and pieces that may not be, wherever they stand, far outside, too.
func TestBackRefused(t *testing.T) {
	for _, w := range edges() {
		for _, h := range edges() {
			if w < 1 || h < 1 || w > api.MaxArea/h {
				wantNotBack(t, nil, w, h)
				wantNotBack(t, []api.Piece{{}}, w, h)
			}
		}
	}
	good := piece(0, 0, raster("##", "#."))
	for _, b := range wrongBitmaps() {
		wantNotBack(t, []api.Piece{{B: b}}, 4, 4)
		wantNotBack(t, []api.Piece{{X: 1, Y: 1, B: b}, good}, 4, 4)
		wantNotBack(t, []api.Piece{good, good, {X: math.MaxInt, Y: -9, B: b}}, 4, 4)
	}
}
