package runs_test

import (
	"slices"
	"sync"
	"testing"

	"burin/api"
	"burin/bitmap"
	"burin/runs"
)

// TestThereAndBack: P9.4: Back of Of is the bitmap; all runs together have as many pixels as are black.
func TestThereAndBack(t *testing.T) {
	d := dice(2)
	for w := 1; w <= 260; w++ {
		for _, long := range []int{1, 3, 90} {
			p := d.drawn(w, 1+d.below(6), long)
			b := p.plain()
			rows, err := runs.Of(b)
			if err != api.OK || len(rows) != b.H {
				t.Fatalf("%d times %d: %d rows, error %d", w, b.H, len(rows), err)
			}
			n := 0
			for _, row := range rows {
				for _, r := range row {
					n += r.To - r.From
				}
			}
			if n != p.count() {
				t.Fatalf("%d times %d: %d pixels, want %d", w, b.H, n, p.count())
			}
			wantBack(t, rows, w, b)
		}
	}
}

// rows are runs that rise and don't touch.
func (d *dice) rows(w, h, long int) [][]api.Run {
	rows := make([][]api.Run, h)
	for y := range rows {
		for from := d.below(long); from < w; {
			to := min(from+1+d.below(long), w)
			rows[y] = append(rows[y], run(from, to))
			from = to + 1 + d.below(long)
		}
	}
	return rows
}

// TestBackAndThere: P9.4: Of of Back are the rows.
func TestBackAndThere(t *testing.T) {
	d := dice(3)
	for range 2000 {
		w := d.wide()
		rows := d.rows(w, 1+d.below(6), []int{1, 2, 9, 100}[d.below(4)])
		b, err := runs.Back(rows, w)
		if err != api.OK || b.W != w || b.H != len(rows) || !bitmap.Check(b) {
			t.Fatalf("Back(%v, %d): %d times %d, error %d", rows, w, b.W, b.H, err)
		}
		wantOf(t, b, rows)
	}
}

// TestSmallest: P9.4: all bitmaps of up to eight pixels, there and back.
func TestSmallest(t *testing.T) {
	for w := 1; w <= 8; w++ {
		for h := 1; h <= 8/w; h++ {
			for n := range 1 << (w * h) {
				p := made(w, h, func(x, y int) bool { return n>>(y*w+x)&1 == 1 })
				wantOf(t, p.plain(), p.runs())
				wantBack(t, p.runs(), w, p.plain())
			}
		}
	}
}

// TestOfKeepsNothing: P9.5 (R2): a bitmap stays as it is, behind its words, too, and nothing is read there; what was told stays, whatever becomes of it.
func TestOfKeepsNothing(t *testing.T) {
	d := dice(4)
	for _, w := range []int{1, 63, 64, 65, 128} {
		p := d.drawn(w, 3, 5)
		b := p.plain()
		words := append(slices.Clone(b.Bits), ^uint64(0), ^uint64(0), 5)
		kept := slices.Clone(words)
		rows, err := runs.Of(api.Bitmap{W: w, H: 3, Bits: words[:len(b.Bits)]})
		if err != api.OK || !slices.Equal(words, kept) {
			t.Fatalf("a bitmap %d wide was changed, or refused: error %d", w, err)
		}
		clear(words)
		if !sameRows(rows, p.runs()) {
			t.Fatalf("%d wide: words behind were read, or an answer changed with its bitmap", w)
		}
	}
}

// TestOwnRows: P9.5 (R2): no two lists of an answer share memory, behind their length neither; the next answer is new.
func TestOwnRows(t *testing.T) {
	d := dice(5)
	p := d.drawn(150, 9, 3)
	b := p.plain()
	rows, _ := runs.Of(b)
	for y := range rows {
		row := append(rows[y], run(-1, -1))
		row = row[:cap(row)]
		for i := range row {
			row[i] = run(-7, -7)
		}
		if !sameRows(rows[y+1:], p.runs()[y+1:]) {
			t.Fatalf("row %d shares memory with one behind it", y)
		}
	}
	for i := range rows {
		rows[i] = nil
	}
	wantOf(t, b, p.runs())
}

// TestBackKeepsNothing: P9.5 (R2): rows stay as they are, behind their lengths, too, and nothing is read there; what was told stays.
func TestBackKeepsNothing(t *testing.T) {
	d := dice(6)
	for _, w := range []int{1, 64, 65, 130} {
		want := d.drawn(w, 4, 6).plain()
		rows, _ := runs.Of(want)
		long := make([][]api.Run, 0, 7)
		var kept [][]api.Run
		for _, row := range rows {
			more := append(slices.Clone(row), run(9, 2), run(-1, 5))
			kept = append(kept, slices.Clone(more))
			long = append(long, more[:len(row)])
		}
		behind := append(long, []api.Run{run(5, 5)})
		b, err := runs.Back(long, w)
		if err != api.OK || !bitmap.Equal(b, want) || !slices.Equal(behind[4], []api.Run{run(5, 5)}) {
			t.Fatalf("%d wide: error %d, or other pixels", w, err)
		}
		for y, row := range long {
			if len(row) != len(rows[y]) || !slices.Equal(row[:len(row)+2], kept[y]) {
				t.Fatalf("%d wide: row %d was changed", w, y)
			}
			clear(row[:len(row)+2])
		}
		if !bitmap.Equal(b, want) {
			t.Fatalf("%d wide: an answer changed with its rows", w)
		}
		clear(b.Bits[:cap(b.Bits)])
		wantBack(t, rows, w, want)
	}
}

// TestSharedRow: P9.5 (R2): one list may stand in several rows; it is only read, by several at the same time, too (go test -race tells).
func TestSharedRow(t *testing.T) {
	row := []api.Run{run(0, 3), run(64, 70)}
	rows := [][]api.Run{row, row, nil, row}
	p := made(70, 4, func(x, y int) bool { return y != 2 && (x < 3 || x >= 64) })
	b := p.plain()
	var all sync.WaitGroup
	for range 4 {
		all.Go(func() {
			got, err := runs.Back(rows, 70)
			if err != api.OK || !bitmap.Equal(got, b) {
				t.Error("other pixels")
			}
			if l, err := runs.Of(b); err != api.OK || !sameRows(l, rows) {
				t.Error("other runs")
			}
		})
	}
	all.Wait()
}

// TestNoPanic: P9.5 (R3): calls end, whatever is handed in; what is answered may be.
func TestNoPanic(t *testing.T) {
	d := dice(7)
	one := func() int { return edges()[d.below(len(edges()))] }
	for range 5000 {
		b := api.Bitmap{W: one(), H: one(), Bits: make([]uint64, d.below(6))}
		for i := range b.Bits {
			b.Bits[i] = uint64(one())
		}
		rows, err := runs.Of(b)
		if (err == api.OK) != bitmap.Check(b) || len(rows) > 0 && len(rows) != b.H {
			t.Fatalf("Of(%+v): %d rows, error %d", b, len(rows), err)
		}
		some := make([][]api.Run, d.below(4))
		for y := range some {
			for range d.below(3) {
				some[y] = append(some[y], run(one(), one()))
			}
		}
		got, err := runs.Back(some, one())
		if err == api.OK && !bitmap.Check(got) || err != api.OK && (err != api.ErrRunsForm || got.Bits != nil) {
			t.Fatalf("Back(%v): error %d", some, err)
		}
		runs.Touch(run(one(), one()), run(one(), one()))
	}
}
