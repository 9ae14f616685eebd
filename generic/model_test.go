package generic_test

import (
	"bytes"
	"math"
	"slices"
	"strings"
	"testing"

	"burin/api"
	"burin/arith"
	"burin/bitmap"
	"burin/generic"
)

// sizes are the templates' contexts, without the skip's.
var sizes = [...]int{65536, 8192, 1024, 1024}

// masks are the templates' places as the chapter's table has them, drawn: a row each, the pixel itself is o.
var masks = [...][3]string{
	{"  ##### ", " #######", "####o   "},
	{"   #### ", "  ######", " ###o   "},
	{"   ###  ", "  ##### ", "  ##o   "},
	{"        ", " ###### ", "####o   "},
}

// pixels is a raster the plainest way: rows of noughts and ones.
type pixels [][]int

func blank(w, h int) pixels {
	p := make(pixels, h)
	for y := range p {
		p[y] = make([]int, w)
	}
	return p
}

// raster reads rows of # (black) and other signs (white).
func raster(rows ...string) pixels {
	p := blank(len(rows[0]), len(rows))
	for y, row := range rows {
		for x := range row {
			if row[x] == '#' {
				p[y][x] = 1
			}
		}
	}
	return p
}

// black is a raster of ones.
func black(w, h int) pixels {
	return raster(slices.Repeat([]string{strings.Repeat("#", w)}, h)...)
}

// at is a pixel; what lies outside is white.
func (p pixels) at(x, y int) int {
	if y < 0 || y >= len(p) || x < 0 || x >= len(p[y]) {
		return 0
	}
	return p[y][x]
}

// context gathers the pixels that a template's mask shows.
func (p pixels) context(template, x, y int) int {
	n := 0
	for j, row := range masks[template] {
		for i, sign := range row {
			if sign == '#' {
				n = 2*n + p.at(x+i-4, y+j-2)
			}
		}
	}
	return n
}

// repeats is whether a row is the one above.
func (p pixels) repeats(y int) int {
	for x := range p[y] {
		if p.at(x, y) != p.at(x, y-1) {
			return 0
		}
	}
	return 1
}

// plain packs the pixels, one by one.
func (p pixels) plain() api.Bitmap {
	w, h := len(p[0]), len(p)
	stride := (w + 63) / 64
	b := api.Bitmap{W: w, H: h, Bits: make([]uint64, h*stride)}
	for y, row := range p {
		for x, bit := range row {
			b.Bits[y*stride+x/64] |= uint64(bit) << (63 - x%64)
		}
	}
	return b
}

// decision is a bit and its context, without base.
type decision struct {
	context, bit int
}

// decisions are a raster's, as the chapter says them.
func (p pixels) decisions(template int, skip bool) []decision {
	var l []decision
	for y := range p {
		if skip {
			same := p.repeats(y)
			if l = append(l, decision{sizes[template], same}); same == 1 {
				continue
			}
		}
		for x := range p[y] {
			l = append(l, decision{p.context(template, x, y), p[y][x]})
		}
	}
	return l
}

// modelPut codes decision by decision.
func modelPut(c *arith.Coder, base int, l []decision) {
	for _, x := range l {
		c.Put(base+x.context, x.bit)
	}
}

// modelGet sets pixel by pixel what a decoder tells.
func modelGet(d *arith.Decoder, base, w, h, template int, skip bool) pixels {
	p := blank(w, h)
	for y := range p {
		if skip {
			if same, _ := d.Get(base + sizes[template]); same == 1 {
				for x := range p[y] {
					p[y][x] = p.at(x, y-1)
				}
				continue
			}
		}
		for x := range p[y] {
			p[y][x], _ = d.Get(base + p.context(template, x, y))
		}
	}
	return p
}

// dice is a row of numbers that is the same in each run.
type dice uint64

func (d *dice) below(n int) int {
	*d += 0x9e3779b97f4a7c15
	z := uint64(*d)
	z = (z ^ z>>30) * 0xbf58476d1ce4e5b9
	z = (z ^ z>>27) * 0x94d049bb133111eb
	return int((z ^ z>>31) % uint64(n))
}

// wide tells widths, those about whole words more often.
func (d *dice) wide() int {
	if d.below(2) == 0 {
		return []int{1, 2, 3, 4, 5, 63, 64, 65, 127, 128, 129}[d.below(11)]
	}
	return 1 + d.below(150)
}

// drawn is a raster of pixels that fall as they may, one of so many black; some rows are those above again, some but for a pixel.
func (d *dice) drawn(w, h, of int) pixels {
	p := blank(w, h)
	for y := range p {
		if again := d.below(4); again < 2 {
			for x := range p[y] {
				p[y][x] = p.at(x, y-1)
			}
			if again == 1 {
				x := []int{0, w - 1, d.below(w)}[d.below(3)]
				p[y][x] ^= 1
			}
			continue
		}
		for x := range p[y] {
			if d.below(of) == 0 {
				p[y][x] = 1
			}
		}
	}
	return p
}

func (d *dice) noise(n int) []byte {
	b := make([]byte, n)
	for i := range b {
		b[i] = byte(d.below(256))
		if d.below(4) == 0 {
			b[i] = []byte{0, 0x7f, 0x8f, 0x90, 0xff, 0xff}[d.below(6)]
		}
	}
	return b
}

// wrongTemplates are numbers of none.
func wrongTemplates() []int {
	return []int{-1, 4, 5, -4, 1 << 32, 1<<32 + 1, -1 << 32, math.MinInt, math.MaxInt}
}

// wrongSizes are no bitmap's.
func wrongSizes() [][2]int {
	return [][2]int{
		{0, 5}, {5, 0}, {0, 0}, {-1, 5}, {5, -1}, {-1, -1}, {-5, -7}, {1<<20 + 1, 1}, {1, 1<<20 + 1},
		{1025, 1024}, {1 << 32, 1 << 32}, {1 << 62, 4}, {1 << 63 >> 1, 2}, {math.MaxInt, 1}, {1, math.MaxInt},
		{math.MinInt, math.MinInt}, {math.MinInt, -1}, {math.MaxInt, math.MaxInt},
	}
}

// wrongBitmaps may not be.
func wrongBitmaps() []api.Bitmap {
	l := []api.Bitmap{
		{},
		{Bits: []uint64{0}},
		{W: 1, H: 1},
		{W: 1, H: 1, Bits: []uint64{0, 0}},
		{W: 1, H: 1, Bits: []uint64{1}},
		{W: 1, H: 1, Bits: []uint64{1 << 62}},
		{W: 65, H: 2, Bits: []uint64{0, 1, 0, 0}},
		{W: 65, H: 2, Bits: []uint64{0, 0, 0, 1}},
		{W: 65, H: 2, Bits: []uint64{0, 0, 0}},
		{W: 64, H: 1<<14 + 1, Bits: make([]uint64, 1<<14+1)},
	}
	for _, s := range wrongSizes() {
		l = append(l, api.Bitmap{W: s[0], H: s[1], Bits: []uint64{0}})
	}
	return l
}

func newCoder(t *testing.T, contexts int) *arith.Coder {
	t.Helper()
	c, err := arith.New(contexts)
	if err != api.OK {
		t.Fatalf("a coder of %d contexts: error %d", contexts, err)
	}
	return c
}

func newDecoder(t *testing.T, f []byte, contexts int) *arith.Decoder {
	t.Helper()
	d, err := arith.NewDecoder(f, contexts)
	if err != api.OK {
		t.Fatalf("a decoder of %d contexts: error %d", contexts, err)
	}
	return d
}

// wantSame holds two coders against each other; both are flushed.
func wantSame(t *testing.T, c, m *arith.Coder) {
	t.Helper()
	if !bytes.Equal(c.States(), m.States()) {
		t.Fatal("other states than decision by decision")
	}
	got, e1 := c.Flush()
	want, e2 := m.Flush()
	if !bytes.Equal(got, want) || e1 != e2 {
		t.Fatalf("other bytes than decision by decision: %.50x, error %d, want %.50x, error %d", got, e1, want, e2)
	}
}

func wantPut(t *testing.T, c *arith.Coder, base int, b api.Bitmap, template int, skip bool, want api.Errno) {
	t.Helper()
	if err := generic.Put(c, base, b, template, skip); err != want {
		t.Fatalf("Put(%d, %d times %d, %d, %t): error %d, want %d", base, b.W, b.H, template, skip, err, want)
	}
}

func wantGet(t *testing.T, d *arith.Decoder, base, template int, skip bool, want pixels) {
	t.Helper()
	w, h := len(want[0]), len(want)
	if b, err := generic.Get(d, base, w, h, template, skip); err != api.OK || !bitmap.Equal(b, want.plain()) {
		t.Fatalf("Get(%d, %d, %d, %d, %t): error %d, or other pixels", base, w, h, template, skip, err)
	}
}

func wantNotGot(t *testing.T, d *arith.Decoder, base, w, h, template int, skip bool, want api.Errno) {
	t.Helper()
	if b, err := generic.Get(d, base, w, h, template, skip); err != want || b.W != 0 || b.H != 0 || b.Bits != nil {
		t.Fatalf("Get(%d, %d, %d, %d, %t): %d times %d, error %d, want %d", base, w, h, template, skip, b.W, b.H, err, want)
	}
}

func wantEncode(t *testing.T, b api.Bitmap, template int, skip bool, want []byte, wantErr api.Errno) {
	t.Helper()
	if f, err := generic.Encode(b, template, skip); err != wantErr || !bytes.Equal(f, want) {
		t.Fatalf("Encode(%d times %d, %d, %t): %.50x, error %d, want %.50x, error %d", b.W, b.H, template, skip, f, err, want, wantErr)
	}
}

func wantDecode(t *testing.T, f []byte, template int, skip bool, want pixels) {
	t.Helper()
	w, h := len(want[0]), len(want)
	if b, err := generic.Decode(f, w, h, template, skip); err != api.OK || !bitmap.Equal(b, want.plain()) {
		t.Fatalf("Decode(%.50x, %d, %d, %d, %t): error %d, or other pixels", f, w, h, template, skip, err)
	}
}

func wantNotDecoded(t *testing.T, f []byte, w, h, template int, want api.Errno) {
	t.Helper()
	for _, skip := range []bool{false, true} {
		if b, err := generic.Decode(f, w, h, template, skip); err != want || b.W != 0 || b.H != 0 || b.Bits != nil {
			t.Fatalf("Decode(%.50x, %d, %d, %d, %t): %d times %d, error %d, want %d", f, w, h, template, skip, b.W, b.H, err, want)
		}
	}
}
