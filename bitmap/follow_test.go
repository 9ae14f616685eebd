package bitmap_test

import (
	"fmt"
	"slices"
	"testing"

	"burin/api"
	"burin/bitmap"
)

// TestBlits: P2.4, P2.7 (T2): a blit is what moving pixels one by one out of a snapshot is, with any offsets, onto itself, too.
func TestBlits(t *testing.T) {
	d := dice(10)
	for i := range 6000 {
		p, q := d.drawn(d.wide(), 1+d.below(6)), d.drawn(d.wide(), 1+d.below(6))
		src, dst := fromPixels(t, p), fromPixels(t, q)
		if i%2 == 0 {
			p, src = q, dst
		}
		sx, sy, w, h, dx, dy, op := d.far(80), d.far(4), d.size(250), d.size(8), d.far(80), d.far(4), d.below(5)
		want := q.clone()
		want.blit(p, sx, sy, w, h, dx, dy, op)
		what := fmt.Sprint("Blit ", sx, sy, w, h, dx, dy, op)
		wantErr(t, what, dst.Blit(src, sx, sy, w, h, dx, dy, op), api.OK)
		wantPixels(t, what, dst, want)
		if i%2 == 1 {
			wantPixels(t, "what is laid", src, p)
		}
	}
}

// TestScroll: P2.4, P2.7 (T2): a map laid onto itself, to each side, by each operation.
func TestScroll(t *testing.T) {
	d := dice(11)
	for _, w := range []int{1, 64, 70, 130} {
		p := d.drawn(w, 4)
		for dy := -4; dy <= 4; dy++ {
			for _, dx := range []int{-130, -65, -64, -63, -1, 0, 1, 63, 64, 65, 129} {
				for op := range 5 {
					m, want := fromPixels(t, p), p.clone()
					m.Blit(m, 0, 0, w, 4, dx, dy, op)
					want.blit(p, 0, 0, w, 4, dx, dy, op)
					wantPixels(t, fmt.Sprint("scroll ", w, dx, dy, op), m, want)
				}
			}
		}
	}
}

// TestBackAgain: P2.7: what is done twice, or four times, and is as it was.
func TestBackAgain(t *testing.T) {
	d := dice(12)
	for range 200 {
		p := d.drawn(d.wide(), 1+d.below(70))
		m := fromPixels(t, p)
		wantPixels(t, "Mirror twice", m.Mirror().Mirror(), p)
		wantPixels(t, "Turn four times", m.Turn().Turn().Turn().Turn(), p)
		wantPixels(t, "Turn twice", m.Turn().Turn(), onItsHead(p))
		m.Invert()
		m.Invert()
		wantPixels(t, "Invert twice", m, p)
		src := fromPixels(t, d.drawn(d.wide(), 1+d.below(70)))
		sx, sy, w, h, dx, dy := d.far(80), d.far(40), d.size(250), d.size(80), d.far(80), d.far(40)
		m.Blit(src, sx, sy, w, h, dx, dy, api.OpXor)
		m.Blit(src, sx, sy, w, h, dx, dy, api.OpXor)
		wantPixels(t, "OpXor twice", m, p)
	}
}

// onItsHead is pixels, turned by a half.
func onItsHead(p pixels) pixels {
	q := p.clone()
	slices.Reverse(q)
	for _, row := range q {
		slices.Reverse(row)
	}
	return q
}

// TestParts: P2.7: Count of all of it is that of its parts; bits that are no pixels stay 0.
func TestParts(t *testing.T) {
	d := dice(13)
	for range 300 {
		w, h := 2+d.below(200), 2+d.below(10)
		m := fromPixels(t, d.drawn(w, h))
		x, y := 1+d.below(w-1), 1+d.below(h-1)
		n := 0
		for _, r := range [][4]int{{0, 0, x, y}, {x, 0, w - x, y}, {0, y, x, h - y}, {x, y, w - x, h - y}} {
			c, err := m.Crop(r[0], r[1], r[2], r[3])
			wantErr(t, "Crop", err, api.OK)
			n += c.Count()
		}
		if n != m.Count() {
			t.Fatalf("the parts have %d pixels, all of it %d", n, m.Count())
		}
		m.Fill(-1, -1, w+2, h+2, 1)
		if m.Count() != w*h || !bitmap.Check(m.Plain()) {
			t.Fatalf("%d times %d, all black: %d", w, h, m.Count())
		}
		m.Blit(m, 0, 0, w, h, 0, 0, api.OpXnor)
		if m.Count() != w*h || !bitmap.Check(m.Plain()) {
			t.Fatalf("%d times %d, laid onto itself: %d", w, h, m.Count())
		}
	}
}

// TestGreatMaps: P2.5, P2.8: maps of MaxArea pixels.
func TestGreatMaps(t *testing.T) {
	for _, s := range [][2]int{{1 << 20, 1}, {1, 1 << 20}, {1 << 10, 1 << 10}, {1 << 14, 1 << 6}} {
		m, err := bitmap.New(s[0], s[1])
		wantErr(t, "New", err, api.OK)
		m.Invert()
		m.Set(0, 0, 0)
		w, h := m.Turn().Size()
		if m.Count() != 1<<20-1 || w != s[1] || h != s[0] || m.Turn().Get(s[1]-1, 0) != 0 || m.Mirror().Get(s[0]-1, 0) != 0 {
			t.Errorf("%v", s)
		}
	}
}

// TestKeepsNothing: P2.8: a map keeps no memory of a bitmap that was handed in, or told.
func TestKeepsNothing(t *testing.T) {
	p := pixels{{1, 0, 1}, {0, 1, 1}}
	all := append(p.plain().Bits, 7, 7)
	b := api.Bitmap{W: 3, H: 2, Bits: all[:2]}
	m, err := bitmap.From(b)
	wantErr(t, "From", err, api.OK)
	all[0], all[1], all[2] = 0, 0, 9
	wantPixels(t, "what was handed in is changed", m, p)
	one, two := m.Plain(), m.Plain()
	one.Bits[0] = 0
	one.Bits = append(one.Bits, 1)
	if !bitmap.Equal(two, p.plain()) {
		t.Error("two answers share memory")
	}
	wantPixels(t, "what was told is changed", m, p)
	m.Invert()
	m.Fill(0, 0, 1, 1, 1)
	if !bitmap.Equal(two, p.plain()) {
		t.Error("an answer went on changing")
	}
	if !slices.Equal(all, []uint64{0, 0, 9, 7}) {
		t.Errorf("what was handed in became %v", all)
	}
}

// TestNewMaps: P2.8: Crop, Mirror and Turn tell maps of their own.
func TestNewMaps(t *testing.T) {
	p := pixels{{1, 0, 1}}
	m := fromPixels(t, p)
	c, _ := m.Crop(0, 0, 3, 1)
	for _, n := range []*bitmap.Map{c, m.Mirror(), m.Turn()} {
		n.Invert()
		wantPixels(t, "a call on another map", m, p)
	}
	one, two := m.Mirror(), m.Mirror()
	m.Invert()
	one.Invert()
	wantPixels(t, "a call on another map", two, p)
}

// TestNoPanic: P2.8: calls end, whatever is handed in.
func TestNoPanic(t *testing.T) {
	m := fromPixels(t, pixels{{1, 0, 1}, {0, 1, 0}})
	edges := []int{-1 << 63, -1, 0, 1, 3, 1 << 62, 1<<63 - 1}
	for _, a := range edges {
		for _, b := range edges {
			for _, c := range edges {
				for _, e := range edges {
					m.Fill(a, b, c, e, 1)
					m.Blit(m, a, b, c, e, b, a, api.OpXor)
					m.Blit(m, a, c, b, b, e, a, api.OpOr)
				}
			}
			m.Set(a, b, a)
			m.Get(a, b)
			m.Crop(a, b, 2, 2)
		}
	}
	if !bitmap.Check(m.Plain()) {
		t.Errorf("%v may not be", m.Plain())
	}
}
