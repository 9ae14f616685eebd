package bitmap_test

import (
	"fmt"
	"math"
	"slices"
	"testing"

	"burin/api"
	"burin/bitmap"
)

// ints are numbers at the edges of all kinds.
func ints() []int {
	return []int{math.MinInt, math.MinInt + 1, -1 << 32, -65, -64, -1, 0, 1, 2, 63, 64, 65, 1 << 20, 1<<20 + 1, 1 << 32, 1 << 62, math.MaxInt}
}

// TestNew: P2.1, example 1.
func TestNew(t *testing.T) {
	refused := [][2]int{{0, 5}, {5, 0}, {2, 1 << 62}, {1 << 62, 2}, {-1, -1}, {-1, 1}, {1, -1}, {1 << 32, 1 << 32}, {1, 1<<20 + 1}, {1<<20 + 1, 1}, {1025, 1024}, {math.MinInt, math.MinInt}, {math.MaxInt, math.MaxInt}, {math.MinInt, -1}}
	for _, s := range refused {
		if m, err := bitmap.New(s[0], s[1]); m != nil || err != api.ErrBitmapArea {
			t.Errorf("New(%d, %d): %v, %d", s[0], s[1], m, err)
		}
	}
	for _, s := range [][2]int{{1, 1}, {3, 1}, {63, 2}, {64, 2}, {65, 2}, {1 << 20, 1}, {1, 1 << 20}, {1024, 1024}, {3, 349525}} {
		m, err := bitmap.New(s[0], s[1])
		wantErr(t, fmt.Sprint("New ", s), err, api.OK)
		wantPixels(t, fmt.Sprint("New ", s), m, blank(s[0], s[1]))
	}
}

// bad are bitmaps that may not be.
func bad() []api.Bitmap {
	return []api.Bitmap{
		{},
		{Bits: []uint64{0}},
		{W: 1, H: 0},
		{W: 0, H: 1},
		{W: -1, H: -1, Bits: []uint64{0}},
		{W: -64, H: -1, Bits: []uint64{0}},
		{W: 1, H: 1},
		{W: 1, H: 1, Bits: []uint64{0, 0}},
		{W: 1, H: 1, Bits: []uint64{1}},
		{W: 1, H: 1, Bits: []uint64{1 << 62}},
		{W: 63, H: 1, Bits: []uint64{1}},
		{W: 64, H: 1, Bits: []uint64{0, 0}},
		{W: 65, H: 1, Bits: []uint64{0}},
		{W: 65, H: 1, Bits: []uint64{0, 1 << 62}},
		{W: 65, H: 2, Bits: []uint64{0, 0, 0, 1}},
		{W: 65, H: 2, Bits: []uint64{0, 1, 0, 0}},
		{W: 65, H: 2, Bits: []uint64{0, 0, 0}},
		{W: 65, H: 2, Bits: []uint64{0, 0, 0, 0, 0}},
		{W: 1 << 40, H: 1 << 40},
		{W: 1 << 32, H: 1 << 32},
		{W: math.MaxInt, H: 1},
		{W: math.MaxInt, H: math.MaxInt},
		{W: math.MinInt, H: math.MinInt},
		{W: 64, H: 1 << 14, Bits: make([]uint64, 1<<14-1)},
		{W: 64, H: 1<<14 + 1, Bits: make([]uint64, 1<<14+1)},
	}
}

// TestCheckRefuses: P2.1, P2.6: bitmaps that may not be.
func TestCheckRefuses(t *testing.T) {
	good := api.Bitmap{W: 1, H: 1, Bits: []uint64{0}}
	for i, b := range bad() {
		if bitmap.Check(b) {
			t.Errorf("bad bitmap %d may be", i)
		}
		if m, err := bitmap.From(b); m != nil || err != api.ErrBitmapForm {
			t.Errorf("From of bad bitmap %d: %v, %d", i, m, err)
		}
		if bitmap.Equal(b, b) || bitmap.Equal(good, b) || bitmap.Equal(b, good) {
			t.Errorf("bad bitmap %d is equal to one", i)
		}
	}
}

// TestFrom: P2.1: bitmaps that may be come and go unchanged.
func TestFrom(t *testing.T) {
	d := dice(1)
	for range 300 {
		p := d.drawn(d.wide(), 1+d.below(5))
		if !bitmap.Check(p.plain()) {
			t.Fatalf("%v may not be", p.plain())
		}
		wantPixels(t, "From", fromPixels(t, p), p)
	}
	for _, b := range []api.Bitmap{{W: 64, H: 1, Bits: []uint64{math.MaxUint64}}, {W: 63, H: 1, Bits: []uint64{math.MaxUint64 - 1}}, {W: 65, H: 1, Bits: []uint64{math.MaxUint64, 1 << 63}}, {W: 64, H: 1 << 14, Bits: make([]uint64, 1<<14)}, {W: 1, H: 1 << 20, Bits: make([]uint64, 1<<20)}} {
		if !bitmap.Check(b) {
			t.Errorf("%d times %d may not be", b.W, b.H)
		}
	}
}

// TestSet: P2.2, example 1.
func TestSet(t *testing.T) {
	m, _ := bitmap.New(3, 1)
	wantErr(t, "Set", m.Set(1, 0, 1), api.OK)
	if b := m.Plain(); b.W != 3 || b.H != 1 || !slices.Equal(b.Bits, []uint64{0x4000000000000000}) {
		t.Fatalf("%x", b)
	}
	for _, x := range ints() {
		for _, y := range ints() {
			if 0 <= x && x < 3 && y == 0 {
				continue
			}
			for _, bit := range []int{0, 1, 2, -1} {
				wantErr(t, fmt.Sprint("Set ", x, y), m.Set(x, y, bit), api.ErrBitmapPlace)
			}
			if m.Get(x, y) != 0 {
				t.Errorf("Get(%d, %d) is not 0", x, y)
			}
		}
	}
	for _, bit := range ints() {
		if bit != 0 && bit != 1 {
			wantErr(t, fmt.Sprint("Set to ", bit), m.Set(1, 0, bit), api.ErrBitmapBit)
			wantErr(t, fmt.Sprint("Set to ", bit), m.Set(0, 0, bit), api.ErrBitmapBit)
		}
	}
	wantPixels(t, "behind refused calls", m, pixels{{0, 1, 0}})
}

// TestGetSetCount: P2.2: of all pixels of a map, one by one.
func TestGetSetCount(t *testing.T) {
	d := dice(2)
	for range 100 {
		w, h := d.wide(), 1+d.below(5)
		p := d.drawn(w, h)
		m := fromPixels(t, p)
		for range 40 {
			x, y, bit := d.below(w), d.below(h), d.below(2)
			wantErr(t, "Set", m.Set(x, y, bit), api.OK)
			p[y][x] = bit
			wantPixels(t, "Set", m, p)
		}
		if m.Count() != p.count() {
			t.Fatalf("Count is %d, want %d", m.Count(), p.count())
		}
		for y := -2; y < h+2; y++ {
			for x := -66; x < w+66; x++ {
				want := 0
				if 0 <= x && x < w && 0 <= y && y < h {
					want = p[y][x]
				}
				if m.Get(x, y) != want {
					t.Fatalf("Get(%d, %d) of %d times %d is not %d", x, y, w, h, want)
				}
			}
		}
	}
}

// TestFillRefuses: P2.3: what may not be, and which of two errors is told.
func TestFillRefuses(t *testing.T) {
	p := pixels{{0, 1, 0}, {1, 1, 0}}
	m := fromPixels(t, p)
	for _, n := range ints() {
		if n < 0 {
			wantErr(t, "Fill", m.Fill(0, 0, n, 1, 1), api.ErrBitmapRect)
			wantErr(t, "Fill", m.Fill(0, 0, 1, n, 1), api.ErrBitmapRect)
			wantErr(t, "Fill", m.Fill(0, 0, n, n, 2), api.ErrBitmapRect)
			wantErr(t, "Fill", m.Fill(9, 9, n, 0, 2), api.ErrBitmapRect)
		}
		if n != 0 && n != 1 {
			wantErr(t, "Fill", m.Fill(0, 0, 3, 2, n), api.ErrBitmapBit)
			wantErr(t, "Fill", m.Fill(0, 0, 0, 0, n), api.ErrBitmapBit)
			wantErr(t, "Fill", m.Fill(math.MaxInt, 0, 3, 2, n), api.ErrBitmapBit)
		}
	}
	wantPixels(t, "behind refused calls", m, p)
}

// TestFill: P2.3: rectangles of all kinds, at the ends of what an int is, too.
func TestFill(t *testing.T) {
	d := dice(3)
	for range 3000 {
		p := d.drawn(d.wide(), 1+d.below(6))
		m := fromPixels(t, p)
		x, y, w, h, bit := d.far(100), d.far(5), d.size(200), d.size(8), d.below(2)
		wantErr(t, "Fill", m.Fill(x, y, w, h, bit), api.OK)
		p.fill(x, y, w, h, bit)
		wantPixels(t, fmt.Sprint("Fill ", x, y, w, h, bit), m, p)
	}
	m, _ := bitmap.New(70, 3)
	m.Fill(math.MinInt, math.MinInt, math.MaxInt, math.MaxInt, 1)
	wantPixels(t, "a rectangle that ends ahead of 0", m, blank(70, 3))
	m.Fill(math.MinInt+2, math.MinInt+2, math.MaxInt, math.MaxInt, 1)
	if m.Count() != 1 || m.Get(0, 0) != 1 {
		t.Errorf("a rectangle that ends behind 0: %d", m.Count())
	}
}

// TestBlitRefuses: P2.4: what may not be, and which of several errors is told.
func TestBlitRefuses(t *testing.T) {
	p := pixels{{0, 1, 0}, {1, 1, 0}}
	m := fromPixels(t, p)
	src := fromPixels(t, pixels{{1, 0, 1}})
	for _, n := range ints() {
		wantErr(t, "Blit of nil", m.Blit(nil, 0, 0, n, n, 0, 0, n), api.ErrBitmapNone)
		if n < 0 {
			wantErr(t, "Blit", m.Blit(src, 0, 0, n, 1, 0, 0, api.OpReplace), api.ErrBitmapRect)
			wantErr(t, "Blit", m.Blit(src, 0, 0, 1, n, 0, 0, api.OpReplace), api.ErrBitmapRect)
			wantErr(t, "Blit", m.Blit(src, 0, 0, n, n, 0, 0, 5), api.ErrBitmapRect)
		}
		if n < api.OpOr || n > api.OpReplace {
			wantErr(t, "Blit", m.Blit(src, 0, 0, 1, 1, 0, 0, n), api.ErrBitmapOp)
			wantErr(t, "Blit", m.Blit(src, 0, 0, 0, 0, 0, 0, n), api.ErrBitmapOp)
			wantErr(t, "Blit", m.Blit(m, 9, 9, 1, 1, 9, 9, n), api.ErrBitmapOp)
		}
	}
	wantErr(t, "Blit", m.Blit(src, 0, 0, 1, 1, 0, 0, 5), api.ErrBitmapOp)
	wantPixels(t, "behind refused calls", m, p)
}

// TestBlitExamples: P2.4, example 2.
func TestBlitExamples(t *testing.T) {
	m := fromPixels(t, pixels{{1, 1, 0, 0}})
	wantErr(t, "Blit", m.Blit(m, 0, 0, 3, 1, 1, 0, api.OpReplace), api.OK)
	wantPixels(t, "a blit onto itself", m, pixels{{1, 1, 1, 0}})
	wantErr(t, "Blit", m.Blit(m, 0, 0, 9, 9, math.MinInt, 5, api.OpXor), api.OK)
	wantPixels(t, "a blit to nowhere", m, pixels{{1, 1, 1, 0}})
}

// TestOperations: P2.4: each operation, of each two pixels.
func TestOperations(t *testing.T) {
	want := [][]int{{0, 1, 1, 1}, {0, 0, 0, 1}, {0, 1, 1, 0}, {1, 0, 0, 1}, {0, 1, 0, 1}}
	for op, row := range want {
		m := fromPixels(t, pixels{{0, 0, 1, 1, 0, 1}})
		src := fromPixels(t, pixels{{0, 1, 0, 1, 1, 0}})
		wantErr(t, "Blit", m.Blit(src, 0, 0, 4, 1, 0, 0, op), api.OK)
		wantPixels(t, fmt.Sprint("operation ", op), m, pixels{append(row, 0, 1)})
		wantPixels(t, "what is laid", src, pixels{{0, 1, 0, 1, 1, 0}})
	}
}

// TestCrop: P2.5: crops of all kinds, and those that may not be.
func TestCrop(t *testing.T) {
	d := dice(5)
	for range 3000 {
		p := d.drawn(d.wide(), 1+d.below(6))
		m := fromPixels(t, p)
		x, y, w, h := d.far(100), d.far(5), d.wide(), 1+d.below(8)
		c, err := m.Crop(x, y, w, h)
		wantErr(t, "Crop", err, api.OK)
		wantPixels(t, fmt.Sprint("Crop ", x, y, w, h), c, p.crop(x, y, w, h))
		wantPixels(t, "what is cropped", m, p)
	}
	m := fromPixels(t, pixels{{1}})
	for _, w := range ints() {
		for _, h := range ints() {
			if want, err := bitmap.New(w, h); want == nil {
				c, got := m.Crop(0, 0, w, h)
				if c != nil || got != err {
					t.Errorf("Crop of %d times %d: %v, %d", w, h, c, got)
				}
			}
		}
	}
	if c, err := m.Crop(math.MinInt, math.MaxInt, 1<<20, 1); err != api.OK || c.Count() != 0 {
		t.Errorf("a great crop: %d", err)
	}
}

// TestInvert: P2.5.
func TestInvert(t *testing.T) {
	d := dice(6)
	for range 300 {
		p := d.drawn(d.wide(), 1+d.below(6))
		m := fromPixels(t, p)
		m.Invert()
		for _, row := range p {
			for x := range row {
				row[x] = 1 - row[x]
			}
		}
		wantPixels(t, "Invert", m, p)
	}
}

// TestMirror: P2.5.
func TestMirror(t *testing.T) {
	d := dice(7)
	for range 300 {
		p := d.drawn(d.wide(), 1+d.below(6))
		q := p.clone()
		for _, row := range q {
			slices.Reverse(row)
		}
		m := fromPixels(t, p)
		wantPixels(t, "Mirror", m.Mirror(), q)
		wantPixels(t, "what is mirrored", m, p)
	}
}

// TestTurn: P2.5, example 3.
func TestTurn(t *testing.T) {
	m := fromPixels(t, pixels{{1, 0}})
	wantPixels(t, "Turn", m.Turn(), pixels{{1}, {0}})
	d := dice(8)
	for range 300 {
		w, h := d.wide(), 1+d.below(80)
		p, q := d.drawn(w, h), blank(h, w)
		for j, row := range q {
			for i := range row {
				row[i] = p[h-1-i][j]
			}
		}
		m := fromPixels(t, p)
		wantPixels(t, "Turn", m.Turn(), q)
		wantPixels(t, "what is turned", m, p)
	}
}

// TestEqual: P2.6.
func TestEqual(t *testing.T) {
	d := dice(9)
	for range 300 {
		w, h := d.wide(), 1+d.below(5)
		p := d.drawn(w, h)
		q := p.clone()
		if !bitmap.Equal(p.plain(), q.plain()) {
			t.Fatalf("%v is unlike itself", p)
		}
		x, y := d.below(w), d.below(h)
		q[y][x] = 1 - q[y][x]
		if bitmap.Equal(p.plain(), q.plain()) || bitmap.Equal(q.plain(), p.plain()) {
			t.Fatalf("%v is like %v", p, q)
		}
	}
	if bitmap.Equal(blank(1, 2).plain(), blank(2, 1).plain()) {
		t.Error("1 times 2 is like 2 times 1")
	}
	if bitmap.Equal(blank(3, 2).plain(), blank(4, 2).plain()) {
		t.Error("sizes of as many words are alike")
	}
	if bitmap.Equal(blank(128, 1).plain(), blank(64, 2).plain()) {
		t.Error("128 times 1 is like 64 times 2")
	}
}
