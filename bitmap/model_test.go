package bitmap_test

import (
	"math/big"
	"testing"

	"burin/api"
	"burin/bitmap"
)

// pixels is a raster the plainest way: rows of noughts and ones.
type pixels [][]int

func blank(w, h int) pixels {
	p := make(pixels, h)
	for y := range p {
		p[y] = make([]int, w)
	}
	return p
}

func (p pixels) size() (w, h int) {
	return len(p[0]), len(p)
}

func (p pixels) clone() pixels {
	q := blank(p.size())
	for y := range p {
		copy(q[y], p[y])
	}
	return q
}

// at tells a pixel of any place; false outside.
func (p pixels) at(x, y *big.Int) (int, bool) {
	if !x.IsInt64() || !y.IsInt64() {
		return 0, false
	}
	w, h := p.size()
	i, j := int(x.Int64()), int(y.Int64())
	if i < 0 || i >= w || j < 0 || j >= h {
		return 0, false
	}
	return p[j][i], true
}

// plain packs the pixels, one by one.
func (p pixels) plain() api.Bitmap {
	w, h := p.size()
	stride := (w + 63) / 64
	b := api.Bitmap{W: w, H: h, Bits: make([]uint64, h*stride)}
	for y, row := range p {
		for x, bit := range row {
			b.Bits[y*stride+x/64] |= uint64(bit) << (63 - x%64)
		}
	}
	return b
}

func (p pixels) count() int {
	n := 0
	for _, row := range p {
		for _, bit := range row {
			n += bit
		}
	}
	return n
}

// within tells whether v is from from up to, and without, from + n.
func within(v, from, n int) bool {
	start := big.NewInt(int64(from))
	end := new(big.Int).Add(start, big.NewInt(int64(n)))
	place := big.NewInt(int64(v))
	return start.Cmp(place) <= 0 && place.Cmp(end) < 0
}

func (p pixels) fill(x, y, w, h, bit int) {
	for j, row := range p {
		for i := range row {
			if within(i, x, w) && within(j, y, h) {
				row[i] = bit
			}
		}
	}
}

// moved is the place v of the one raster, told in the other: v - to + from.
func moved(v, to, from int) *big.Int {
	place := new(big.Int).Sub(big.NewInt(int64(v)), big.NewInt(int64(to)))
	return place.Add(place, big.NewInt(int64(from)))
}

func (p pixels) blit(src pixels, sx, sy, w, h, dx, dy, op int) {
	src = src.clone()
	for j, row := range p {
		for i, d := range row {
			s, ok := src.at(moved(i, dx, sx), moved(j, dy, sy))
			if ok && within(i, dx, w) && within(j, dy, h) {
				row[i] = operated(d, s, op)
			}
		}
	}
}

func operated(d, s, op int) int {
	switch op {
	case api.OpOr:
		return max(d, s)
	case api.OpAnd:
		return min(d, s)
	case api.OpXor:
		return (d + s) % 2
	case api.OpXnor:
		return (d + s + 1) % 2
	}
	return s
}

func (p pixels) crop(x, y, w, h int) pixels {
	q := blank(w, h)
	for j, row := range q {
		for i := range row {
			row[i], _ = p.at(moved(i, 0, x), moved(j, 0, y))
		}
	}
	return q
}

// dice is a row of numbers that is the same in each run.
type dice uint64

func (d *dice) below(n int) int {
	return int(d.word() % uint64(n))
}

func (d *dice) word() uint64 {
	*d += 0x9e3779b97f4a7c15
	z := uint64(*d)
	z = (z ^ z>>30) * 0xbf58476d1ce4e5b9
	z = (z ^ z>>27) * 0x94d049bb133111eb
	return z ^ z>>31
}

// wide tells widths, those about whole words more often.
func (d *dice) wide() int {
	if d.below(2) == 0 {
		return []int{1, 2, 63, 64, 65, 127, 128, 129}[d.below(8)]
	}
	return 1 + d.below(200)
}

// drawn is pixels by chance.
func (d *dice) drawn(w, h int) pixels {
	p := blank(w, h)
	for _, row := range p {
		for x := range row {
			row[x] = d.below(2)
		}
	}
	return p
}

// far is a place by chance, near or at the ends of what an int is.
func (d *dice) far(near int) int {
	if d.below(6) == 0 {
		ends := []int{-1 << 63, 1<<63 - 1, -1<<63 + 1, -1<<63 + 64, 1<<63 - 65, -1 << 62, 1 << 62, 1 << 32}
		return ends[d.below(len(ends))]
	}
	return d.below(2*near) - near + d.below(2)*64
}

// size is a width or height by chance, great ones among them.
func (d *dice) size(near int) int {
	if d.below(6) == 0 {
		return []int{0, 1<<63 - 1, 1<<63 - 2, 1 << 62, 1 << 32}[d.below(5)]
	}
	return d.below(near)
}

func fromPixels(t *testing.T, p pixels) *bitmap.Map {
	t.Helper()
	m, err := bitmap.From(p.plain())
	if err != api.OK || m == nil {
		t.Fatalf("From: %v, %d", m, err)
	}
	return m
}

// wantPixels holds a map against pixels: its bitmap word by word, and its size.
func wantPixels(t *testing.T, what string, m *bitmap.Map, p pixels) {
	t.Helper()
	got, want := m.Plain(), p.plain()
	w, h := m.Size()
	if got.W != want.W || got.H != want.H || w != want.W || h != want.H || len(got.Bits) != len(want.Bits) {
		t.Fatalf("%s: %d times %d, %d words; want %d times %d, %d words", what, got.W, got.H, len(got.Bits), want.W, want.H, len(want.Bits))
	}
	for i, word := range want.Bits {
		if got.Bits[i] != word {
			t.Fatalf("%s: word %d is %016x, want %016x", what, i, got.Bits[i], word)
		}
	}
}

func wantErr(t *testing.T, what string, got, want api.Errno) {
	t.Helper()
	if got != want {
		t.Fatalf("%s: error %d, want %d", what, got, want)
	}
}
