package runs_test

import (
	"math"
	"testing"

	"burin/api"
	"burin/runs"
)

// TestExample: P9.1, P9.2, P9.3: the chapter's examples.
func TestExample(t *testing.T) {
	b, rows := raster(".##.#").plain(), [][]api.Run{{run(1, 3), run(4, 5)}}
	wantOf(t, b, rows)
	wantBack(t, rows, 5, b)
	wantTouch(t, run(0, 2), run(2, 3), true)
	wantTouch(t, run(0, 2), run(3, 4), false)
}

// TestOf: P9.1: the runs of rasters of all kinds are those found pixel by pixel.
func TestOf(t *testing.T) {
	d := dice(1)
	for range 2000 {
		p := d.drawn(d.wide(), 1+d.below(5), []int{1, 2, 5, 70, 200}[d.below(5)])
		wantOf(t, p.plain(), p.runs())
	}
}

// TestOneRun: P9.1, P9.2: a run that begins and ends at any place of a row, at the edges and at the ends of words, too.
func TestOneRun(t *testing.T) {
	for _, w := range []int{1, 2, 62, 63, 64, 65, 66, 127, 128, 129, 130} {
		for from := range w {
			for to := from + 1; to <= w; to++ {
				p := made(w, 1, func(x, y int) bool { return from <= x && x < to })
				rows := [][]api.Run{{run(from, to)}}
				wantOf(t, p.plain(), rows)
				wantBack(t, rows, w, p.plain())
			}
		}
	}
}

// TestAlike: P9.1, P9.2: one list a row, empty ones too; rows that are black up to both edges run into no other row.
func TestAlike(t *testing.T) {
	for _, w := range []int{1, 63, 64, 65, 128, 200} {
		for _, h := range []int{1, 2, 7} {
			white, black, stripes := make([][]api.Run, h), make([][]api.Run, h), make([][]api.Run, h)
			for y := range h {
				black[y] = []api.Run{run(0, w)}
				if y%2 == 1 {
					stripes[y] = black[y]
				}
			}
			for rule, rows := range [][][]api.Run{white, black, stripes} {
				p := made(w, h, func(x, y int) bool { return rule == 1 || rule == 2 && y%2 == 1 })
				wantOf(t, p.plain(), rows)
				wantBack(t, rows, w, p.plain())
			}
		}
	}
}

// TestOfRefused: P9.1: bitmaps that may not be.
func TestOfRefused(t *testing.T) {
	for i, b := range wrongBitmaps() {
		if l, err := runs.Of(b); l != nil || err != api.ErrRunsForm {
			t.Errorf("wrong bitmap %d: %.50v, error %d", i, l, err)
		}
	}
}

// TestGreatest: P9.1, P9.2: bitmaps of MaxArea pixels, as many runs as there may be among them.
func TestGreatest(t *testing.T) {
	for _, size := range [][2]int{{api.MaxArea, 1}, {1, api.MaxArea}, {1024, 1024}, {349525, 3}} {
		w, h := size[0], size[1]
		for _, isBlack := range []func(x, y int) bool{
			func(x, y int) bool { return true },
			func(x, y int) bool { return (x+y)%2 == 0 },
			func(x, y int) bool { return x == w-1 && y == h-1 },
		} {
			p := made(w, h, isBlack)
			b, rows := p.plain(), p.runs()
			wantOf(t, b, rows)
			wantBack(t, rows, w, b)
		}
	}
}

// TestBackSizes: P9.2: a width and a number of rows that are no bitmap's size.
func TestBackSizes(t *testing.T) {
	for _, w := range edges() {
		wantNotBack(t, nil, w)
		wantNotBack(t, [][]api.Run{}, w)
		for _, h := range []int{1, 2, 3, 1024, 1025} {
			rows := make([][]api.Run, h)
			if w < 1 || w > api.MaxArea/h {
				wantNotBack(t, rows, w)
				rows[0] = []api.Run{run(0, 1)}
				wantNotBack(t, rows, w)
			} else {
				wantBack(t, rows, w, blank(w, h).plain())
			}
		}
	}
	wantNotBack(t, make([][]api.Run, api.MaxArea+1), 1)
	wantNotBack(t, make([][]api.Run, 1<<19+1), 2)
}

// riseApart says the chapter's words of a row of runs, one by one.
func riseApart(row []api.Run, w int) bool {
	for i, r := range row {
		if !(r.From < r.To) || r.From < 0 || r.To > w {
			return false
		}
		if i > 0 && !(r.From > row[i-1].To) {
			return false
		}
	}
	return true
}

// TestBackRows: P9.2: all rows of up to two runs about a narrow bitmap: what may be, and what may not.
func TestBackRows(t *testing.T) {
	const w = 5
	var single []api.Run
	for from := -2; from <= w+2; from++ {
		for to := -2; to <= w+2; to++ {
			single = append(single, run(from, to))
		}
	}
	check := func(row ...api.Run) {
		for y := range 3 {
			rows := [][]api.Run{{run(0, 1)}, {}, {run(w-1, w)}}
			rows[y] = row
			if !riseApart(row, w) {
				wantNotBack(t, rows, w)
				continue
			}
			p := raster("#....", ".....", "....#")
			p[y] = make([]int, w)
			for _, r := range row {
				for x := r.From; x < r.To; x++ {
					p[y][x] = 1
				}
			}
			wantBack(t, rows, w, p.plain())
		}
	}
	for _, a := range single {
		check(a)
		for _, b := range single {
			check(a, b)
		}
	}
}

// TestBackEdges: P9.2: runs that end at the ends of what an int is are no bitmap's; nothing wraps.
func TestBackEdges(t *testing.T) {
	for _, w := range []int{1, 2, 64, 65, api.MaxArea} {
		for _, from := range edges() {
			for _, to := range edges() {
				row := []api.Run{run(from, to)}
				if _, err := runs.Back([][]api.Run{row}, w); (err == api.OK) != riseApart(row, w) {
					t.Fatalf("Back(%v, %d): error %d", row, w, err)
				}
				if !riseApart(row, w) {
					wantNotBack(t, [][]api.Run{row}, w)
				}
			}
		}
	}
}

// TestBackThird: P9.2: each run is held against the one just ahead, far from the row's beginning, too.
func TestBackThird(t *testing.T) {
	good := []api.Run{run(0, 10), run(60, 70), run(71, 128), run(130, 200)}
	p := made(200, 1, func(x, y int) bool { return x < 10 || 60 <= x && x != 70 && x != 128 && x != 129 })
	wantBack(t, [][]api.Run{good}, 200, p.plain())
	wantNotBack(t, [][]api.Run{good}, 199)
	for _, wrong := range [][]api.Run{
		{run(0, 10), run(60, 70), run(70, 128), run(130, 200)},
		{run(0, 10), run(60, 70), run(69, 128), run(130, 200)},
		{run(0, 10), run(60, 70), run(11, 20), run(130, 200)},
		{run(0, 10), run(60, 70), run(71, 71), run(130, 200)},
		{run(0, 10), run(60, 70), run(130, 200), run(71, 128)},
		{run(0, 10), run(0, 10)},
		{run(60, 70), run(0, 10)},
	} {
		wantNotBack(t, [][]api.Run{wrong}, 200)
	}
}

// neighbours asks all pixels of both, one by one.
func neighbours(a, b api.Run) bool {
	for x := a.From; x < a.To; x++ {
		for z := b.From; z < b.To; z++ {
			if x-z <= 1 && z-x <= 1 {
				return true
			}
		}
	}
	return false
}

// TestTouch: P9.3: all runs of a few pixels, empty ones and those below 0 among them.
func TestTouch(t *testing.T) {
	var some []api.Run
	for from := -4; from <= 4; from++ {
		for to := -4; to <= 4; to++ {
			some = append(some, run(from, to))
		}
	}
	for _, a := range some {
		for _, b := range some {
			wantTouch(t, a, b, neighbours(a, b))
		}
	}
}

// TestTouchFar: P9.3: runs at the ends of what an int is.
func TestTouchFar(t *testing.T) {
	low, high := math.MinInt, math.MaxInt
	for _, c := range []struct {
		a, b api.Run
		want bool
	}{
		{run(low, high), run(-5, -4), true},
		{run(low, high), run(low, high), true},
		{run(low, high), run(high-1, high), true},
		{run(low, high), run(low, low+1), true},
		{run(low, 0), run(0, high), true},
		{run(low, 0), run(1, high), false},
		{run(low, low+1), run(high-1, high), false},
		{run(low, low+1), run(low+1, low+2), true},
		{run(low, low+1), run(low+2, low+3), false},
		{run(high-1, high), run(high-2, high-1), true},
		{run(high-1, high), run(high-3, high-2), false},
		{run(high, low), run(low, high), false},
		{run(high, high), run(low, high), false},
		{run(low, low), run(low, high), false},
	} {
		wantTouch(t, c.a, c.b, c.want)
	}
}
