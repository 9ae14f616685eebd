package context_test

import (
	"math"
	"testing"

	"burin/api"
	"burin/context"
)

// TestSize: P6.1.
func TestSize(t *testing.T) {
	for template, want := range []int{65536, 8192, 1024, 1024} {
		if n, err := context.Size(template); n != want || err != api.OK {
			t.Errorf("Size(%d): %d, error %d", template, n, err)
		}
		if places := len(templates(t)[template]); want != 1<<places {
			t.Errorf("template %d has %d places", template, places)
		}
	}
	for _, template := range wrongTemplates() {
		if n, err := context.Size(template); n != 0 || err != api.ErrGenericTemplate {
			t.Errorf("Size(%d): %d, error %d", template, n, err)
		}
	}
}

// TestExample: P6.2, P6.3: the chapter's example.
func TestExample(t *testing.T) {
	b := api.Bitmap{W: 2, H: 1, Bits: []uint64{1 << 63}}
	wantAt(t, b, 2, 1, 0, 1, api.OK)
	wantAt(t, b, 2, 0, 1, 16, api.OK)
	wantAt(t, b, 3, -5, 7, 0, api.OK)
	wantRow(t, b, 2, 0, []int{0, 1}, api.OK)
}

// TestOnePlace: P6.2, P6.3: a black pixel alone is the bit of its place, of no other place any.
func TestOnePlace(t *testing.T) {
	for template, places := range templates(t) {
		bits := map[place]int{}
		for i, at := range places {
			bits[at] = 1 << (len(places) - 1 - i)
		}
		for _, x := range []int{0, 7, 60, 63, 64, 67, 127} {
			p := blank(128, 9)
			p[4][x] = 1
			b := p.plain()
			for j := -3; j < 12; j++ {
				for i := x - 8; i <= x+8; i++ {
					wantAt(t, b, template, i, j, bits[place{x - i, 4 - j}], api.OK)
				}
			}
			for j := range 9 {
				row := make([]int, 128)
				for i := range row {
					row[i] = bits[place{x - i, 4 - j}]
				}
				wantRow(t, b, template, j, row, api.OK)
			}
		}
	}
}

// TestBlack: P6.2, P6.3: all places black: the greatest context; at the edges what lies outside is white.
func TestBlack(t *testing.T) {
	for template, places := range templates(t) {
		for _, w := range []int{1, 8, 63, 64, 65, 130} {
			p := black(w, 5)
			b := p.plain()
			for y := range 5 {
				want := make([]int, w)
				for x := range want {
					want[x] = p.context(places, x, y)
				}
				wantRow(t, b, template, y, want, api.OK)
			}
			if size, _ := context.Size(template); w >= 8 {
				wantAt(t, b, template, 4, 2, size-1, api.OK)
			}
		}
	}
}

// TestAround: P6.2: places outside that still see pixels, and those just beyond.
func TestAround(t *testing.T) {
	d := dice(1)
	for _, size := range []place{{1, 1}, {1, 4}, {5, 1}, {3, 3}, {63, 2}, {64, 2}, {65, 3}} {
		for _, p := range []pixels{black(size.right, size.down), d.drawn(size.right, size.down)} {
			b := p.plain()
			for template, places := range templates(t) {
				for y := -6; y < size.down+7; y++ {
					for x := -9; x < size.right+10; x++ {
						wantAt(t, b, template, x, y, p.context(places, x, y), api.OK)
					}
				}
			}
		}
	}
}

// TestFar: P6.2: x, y may be any ints.
func TestFar(t *testing.T) {
	b := black(70, 6).plain()
	for template := range 4 {
		for _, far := range farPlaces() {
			for near := -5; near < 75; near++ {
				wantAt(t, b, template, far, near, 0, api.OK)
				wantAt(t, b, template, near, far, 0, api.OK)
			}
			for _, other := range farPlaces() {
				wantAt(t, b, template, far, other, 0, api.OK)
			}
		}
	}
}

// TestRefused: P6.2, P6.3: the first error that applies; nothing beside it.
func TestRefused(t *testing.T) {
	good := black(3, 2).plain()
	for _, template := range wrongTemplates() {
		for _, b := range append(wrongBitmaps(), good) {
			wantAt(t, b, template, 1, 1, 0, api.ErrGenericTemplate)
			wantRow(t, b, template, 1, nil, api.ErrGenericTemplate)
			wantRow(t, b, template, -1, nil, api.ErrGenericTemplate)
		}
	}
	for template := range 4 {
		for _, b := range wrongBitmaps() {
			for _, y := range []int{0, 1, -1, 2, math.MinInt, math.MaxInt} {
				wantAt(t, b, template, 1, y, 0, api.ErrGenericForm)
				wantAt(t, b, template, y, 0, 0, api.ErrGenericForm)
				wantRow(t, b, template, y, nil, api.ErrGenericForm)
			}
		}
		for _, y := range append(farPlaces(), -3, -2, -1, 2, 3, 4) {
			wantRow(t, good, template, y, nil, api.ErrGenericRow)
		}
	}
}

// TestGreatest: P6.3: rows of bitmaps of MaxArea pixels, the first ones and the last ones.
func TestGreatest(t *testing.T) {
	for _, size := range []place{{api.MaxArea, 1}, {1, api.MaxArea}, {1024, 1024}} {
		w, h := size.right, size.down
		p := black(w, h)
		b := p.plain()
		for template, places := range templates(t) {
			for _, y := range []int{0, 1, 2, 3, h - 2, h - 1} {
				if y < 0 || y >= h {
					continue
				}
				l, err := context.Row(b, template, y)
				if err != api.OK || len(l) != w {
					t.Fatalf("%d times %d: %d contexts, error %d", w, h, len(l), err)
				}
				for _, x := range []int{0, 1, 2, 3, 4, 5, 63, 64, w - 4, w - 3, w - 2, w - 1} {
					if 0 <= x && x < w && l[x] != p.context(places, x, y) {
						t.Fatalf("%d times %d, template %d, %d, %d: %d", w, h, template, x, y, l[x])
					}
				}
			}
			wantRow(t, b, template, h, nil, api.ErrGenericRow)
		}
	}
}
