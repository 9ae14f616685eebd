package refine_test

import (
	"bytes"
	"math"
	"slices"
	"strings"
	"testing"

	"burin/api"
	"burin/arith"
	"burin/bitmap"
	"burin/refine"
)

// size is how many contexts a procedure has.
const size = 8192

// pixels is a raster the plainest way: rows of noughts and ones.
type pixels [][]int

func blank(w, h int) pixels {
	p := make(pixels, h)
	for y := range p {
		p[y] = make([]int, w)
	}
	return p
}

// raster reads rows of # (black) and other signs (white).
func raster(rows ...string) pixels {
	p := blank(len(rows[0]), len(rows))
	for y, row := range rows {
		for x := range row {
			if row[x] == '#' {
				p[y][x] = 1
			}
		}
	}
	return p
}

// black is a raster of ones.
func black(w, h int) pixels {
	return raster(slices.Repeat([]string{strings.Repeat("#", w)}, h)...)
}

// at is a pixel; what lies outside is white.
func (p pixels) at(x, y int) int {
	if y < 0 || y >= len(p) || x < 0 || x >= len(p[y]) {
		return 0
	}
	return p[y][x]
}

// plain packs the pixels, one by one.
func (p pixels) plain() api.Bitmap {
	w, h := len(p[0]), len(p)
	stride := (w + 63) / 64
	b := api.Bitmap{W: w, H: h, Bits: make([]uint64, h*stride)}
	for y, row := range p {
		for x, bit := range row {
			b.Bits[y*stride+x/64] |= uint64(bit) << (63 - x%64)
		}
	}
	return b
}

// side is a reference and its shift.
type side struct {
	ref    pixels
	dx, dy int
}

// context gathers a pixel's, place by place, in the order that the chapter names.
func (s side) context(p pixels, x, y int) int {
	n := 0
	for _, place := range [][2]int{{-1, -1}, {0, -1}, {1, -1}, {-1, 0}} {
		n = 2*n + p.at(x+place[0], y+place[1])
	}
	for _, place := range [][2]int{{-1, -1}, {0, -1}, {1, -1}, {-1, 0}, {0, 0}, {1, 0}, {-1, 1}, {0, 1}, {1, 1}} {
		n = 2*n + s.ref.at(x-s.dx+place[0], y-s.dy+place[1])
	}
	return n
}

// decision is a bit and its context, without base.
type decision struct {
	context, bit int
}

// decisions are a raster's, as the chapter says them.
func (s side) decisions(p pixels) []decision {
	var l []decision
	for y := range p {
		for x := range p[y] {
			l = append(l, decision{s.context(p, x, y), p[y][x]})
		}
	}
	return l
}

func modelPut(c *arith.Coder, base int, l []decision) {
	for _, d := range l {
		c.Put(base+d.context, d.bit)
	}
}

// modelGet decodes decision by decision.
func (s side) modelGet(d *arith.Decoder, base, w, h int) pixels {
	p := blank(w, h)
	for y := range p {
		for x := range p[y] {
			p[y][x], _ = d.Get(base + s.context(p, x, y))
		}
	}
	return p
}

// dice tells numbers that are the same in each run.
type dice uint64

func (d *dice) below(n int) int {
	*d += 0x9e3779b97f4a7c15
	z := uint64(*d)
	z = (z ^ z>>30) * 0xbf58476d1ce4e5b9
	z = (z ^ z>>27) * 0x94d049bb133111eb
	return int((z ^ z>>31) % uint64(n))
}

// wide tells widths, those about whole words more often.
func (d *dice) wide() int {
	if d.below(2) == 0 {
		return []int{1, 2, 3, 4, 5, 63, 64, 65, 127, 128, 129}[d.below(11)]
	}
	return 1 + d.below(150)
}

// drawn is a raster of pixels that fall as they may, one of so many black.
func (d *dice) drawn(w, h, of int) pixels {
	p := blank(w, h)
	for y := range p {
		for x := range p[y] {
			if d.below(of) == 0 {
				p[y][x] = 1
			}
		}
	}
	return p
}

// side is a reference of any size, shifted a little, to beyond its edges, or far away.
func (d *dice) side() side {
	s := side{ref: d.drawn(d.wide(), 1+d.below(8), 2+d.below(3))}
	switch d.below(8) {
	case 0:
	case 1:
		s.dx, s.dy = d.far(), d.far()
	case 2:
		s.dx, s.dy = d.below(300)-150, d.below(20)-10
	default:
		s.dx, s.dy = d.below(9)-4, d.below(5)-2
	}
	return s
}

// far tells shifts up to the greatest.
func (d *dice) far() int {
	return []int{-api.MaxArea, api.MaxArea, 1 - api.MaxArea, api.MaxArea - 1, -64, 64, 1 << 16, 0}[d.below(8)]
}

func (d *dice) noise(n int) []byte {
	b := make([]byte, n)
	for i := range b {
		b[i] = byte(d.below(256))
		if d.below(4) == 0 {
			b[i] = []byte{0, 0x7f, 0x8f, 0x90, 0xff, 0xff}[d.below(6)]
		}
	}
	return b
}

// wrongShifts are a pixel too great, or much more.
func wrongShifts() [][2]int {
	l := [][2]int{{api.MaxArea + 1, -api.MaxArea - 1}, {math.MinInt, math.MaxInt}}
	for _, n := range []int{api.MaxArea + 1, -api.MaxArea - 1, 1 << 32, -1 << 32, 1<<32 + 1, math.MinInt, math.MinInt + 1, math.MaxInt} {
		l = append(l, [2]int{n, 0}, [2]int{0, n}, [2]int{api.MaxArea, n}, [2]int{n, -api.MaxArea})
	}
	return l
}

// wrongSizes are no bitmap's.
func wrongSizes() [][2]int {
	return [][2]int{
		{0, 5}, {5, 0}, {0, 0}, {-1, 5}, {5, -1}, {-1, -1}, {-5, -7}, {1<<20 + 1, 1}, {1, 1<<20 + 1},
		{1025, 1024}, {1 << 32, 1 << 32}, {1 << 62, 4}, {1 << 63 >> 1, 2}, {math.MaxInt, 1}, {1, math.MaxInt},
		{math.MinInt, math.MinInt}, {math.MinInt, -1}, {math.MaxInt, math.MaxInt},
	}
}

// wrongBitmaps may not be.
func wrongBitmaps() []api.Bitmap {
	l := []api.Bitmap{
		{},
		{Bits: []uint64{0}},
		{W: 1, H: 1},
		{W: 1, H: 1, Bits: []uint64{0, 0}},
		{W: 1, H: 1, Bits: []uint64{1}},
		{W: 1, H: 1, Bits: []uint64{1 << 62}},
		{W: 65, H: 2, Bits: []uint64{0, 1, 0, 0}},
		{W: 65, H: 2, Bits: []uint64{0, 0, 0, 1}},
		{W: 65, H: 2, Bits: []uint64{0, 0, 0}},
		{W: 64, H: 1<<14 + 1, Bits: make([]uint64, 1<<14+1)},
	}
	for _, s := range wrongSizes() {
		l = append(l, api.Bitmap{W: s[0], H: s[1], Bits: []uint64{0}})
	}
	return l
}

// wrongBases are none of a procedure in four contexts more than it has.
func wrongBases() []int {
	return []int{-1, -2, 5, 6, size, size + 5, 1 << 31, 1 << 32, math.MinInt, math.MaxInt, math.MaxInt - size, math.MaxInt - size + 1, -size}
}

func newCoder(t *testing.T, contexts int) *arith.Coder {
	t.Helper()
	c, err := arith.New(contexts)
	if err != api.OK {
		t.Fatalf("a coder of %d contexts: error %d", contexts, err)
	}
	return c
}

func newDecoder(t *testing.T, f []byte, contexts int) *arith.Decoder {
	t.Helper()
	d, err := arith.NewDecoder(f, contexts)
	if err != api.OK {
		t.Fatalf("a decoder of %d contexts: error %d", contexts, err)
	}
	return d
}

// wantSame holds two coders against each other; both are flushed.
func wantSame(t *testing.T, c, m *arith.Coder) {
	t.Helper()
	if !bytes.Equal(c.States(), m.States()) {
		t.Fatal("other states than decision by decision")
	}
	got, e1 := c.Flush()
	want, e2 := m.Flush()
	if !bytes.Equal(got, want) || e1 != e2 {
		t.Fatalf("other bytes than decision by decision: %.50x, error %d, want %.50x, error %d", got, e1, want, e2)
	}
}

func wantPut(t *testing.T, c *arith.Coder, base int, b, ref api.Bitmap, dx, dy int, want api.Errno) {
	t.Helper()
	if err := refine.Put(c, base, b, ref, dx, dy); err != want {
		t.Fatalf("Put(%d, %d times %d, %d times %d, %d, %d): error %d, want %d", base, b.W, b.H, ref.W, ref.H, dx, dy, err, want)
	}
}

// put is Put of what may be.
func (s side) put(t *testing.T, c *arith.Coder, base int, p pixels) {
	t.Helper()
	wantPut(t, c, base, p.plain(), s.ref.plain(), s.dx, s.dy, api.OK)
}

// wantGet is Get of what was put.
func (s side) wantGet(t *testing.T, d *arith.Decoder, base int, want pixels) {
	t.Helper()
	w, h := len(want[0]), len(want)
	if b, err := refine.Get(d, base, w, h, s.ref.plain(), s.dx, s.dy); err != api.OK || !bitmap.Equal(b, want.plain()) {
		t.Fatalf("Get(%d, %d, %d, shifted by %d, %d): error %d, or other pixels", base, w, h, s.dx, s.dy, err)
	}
}

func wantNotGot(t *testing.T, d *arith.Decoder, base, w, h int, ref api.Bitmap, dx, dy int, want api.Errno) {
	t.Helper()
	if b, err := refine.Get(d, base, w, h, ref, dx, dy); err != want || b.W != 0 || b.H != 0 || b.Bits != nil {
		t.Fatalf("Get(%d, %d, %d, %d times %d, %d, %d): %d times %d, error %d, want %d", base, w, h, ref.W, ref.H, dx, dy, b.W, b.H, err, want)
	}
}

func (s side) wantEncode(t *testing.T, p pixels, want []byte) {
	t.Helper()
	if f, err := refine.Encode(p.plain(), s.ref.plain(), s.dx, s.dy); err != api.OK || !bytes.Equal(f, want) {
		t.Fatalf("Encode(%d times %d, shifted by %d, %d): %.50x, error %d, want %.50x", len(p[0]), len(p), s.dx, s.dy, f, err, want)
	}
}

func wantNotEncoded(t *testing.T, b, ref api.Bitmap, dx, dy int, want api.Errno) {
	t.Helper()
	if f, err := refine.Encode(b, ref, dx, dy); err != want || f != nil {
		t.Fatalf("Encode(%d times %d, %d times %d, %d, %d): %.50x, error %d, want %d", b.W, b.H, ref.W, ref.H, dx, dy, f, err, want)
	}
}

func (s side) wantDecode(t *testing.T, f []byte, want pixels) {
	t.Helper()
	w, h := len(want[0]), len(want)
	if b, err := refine.Decode(f, w, h, s.ref.plain(), s.dx, s.dy); err != api.OK || !bitmap.Equal(b, want.plain()) {
		t.Fatalf("Decode(%.50x, %d, %d, shifted by %d, %d): error %d, or other pixels", f, w, h, s.dx, s.dy, err)
	}
}

func wantNotDecoded(t *testing.T, f []byte, w, h int, ref api.Bitmap, dx, dy int, want api.Errno) {
	t.Helper()
	if b, err := refine.Decode(f, w, h, ref, dx, dy); err != want || b.W != 0 || b.H != 0 || b.Bits != nil {
		t.Fatalf("Decode(%.50x, %d, %d, %d times %d, %d, %d): %d times %d, error %d, want %d", f, w, h, ref.W, ref.H, dx, dy, b.W, b.H, err, want)
	}
}
