package context_test

import (
	"math"
	"regexp"
	"slices"
	"strconv"
	"strings"
	"testing"

	"burin/api"
	"burin/context"
)

// chapter is the table of templates, as it is told.
const chapter = `
| 0 (16) | (-2,-2) (-1,-2) (0,-2) (1,-2) (2,-2) (-3,-1) (-2,-1) (-1,-1) (0,-1) (1,-1) (2,-1) (3,-1) (-4,0) (-3,0) (-2,0) (-1,0) |
| 1 (13) | (-1,-2) (0,-2) (1,-2) (2,-2) (-2,-1) (-1,-1) (0,-1) (1,-1) (2,-1) (3,-1) (-3,0) (-2,0) (-1,0) |
| 2 (10) | (-1,-2) (0,-2) (1,-2) (-2,-1) (-1,-1) (0,-1) (1,-1) (2,-1) (-2,0) (-1,0) |
| 3 (10) | (-3,-1) (-2,-1) (-1,-1) (0,-1) (1,-1) (2,-1) (-4,0) (-3,0) (-2,0) (-1,0) |
`

// place is how far to the right and down of a pixel another one is.
type place struct {
	right, down int
}

// templates reads the chapter's table.
func templates(t *testing.T) [][]place {
	t.Helper()
	pair := regexp.MustCompile(`\((-?\d+),(-?\d+)\)`)
	var l [][]place
	for _, line := range strings.Split(strings.TrimSpace(chapter), "\n") {
		var places []place
		for _, m := range pair.FindAllStringSubmatch(line, -1) {
			right, _ := strconv.Atoi(m[1])
			down, _ := strconv.Atoi(m[2])
			places = append(places, place{right, down})
		}
		if !strings.Contains(line, "("+strconv.Itoa(len(places))+")") {
			t.Fatalf("%d places of %s", len(places), line)
		}
		l = append(l, places)
	}
	return l
}

// wrongTemplates are numbers of none.
func wrongTemplates() []int {
	return []int{-1, 4, 5, -4, 1 << 32, 1<<32 + 1, -1 << 32, math.MinInt, math.MaxInt}
}

// farPlaces are places from which nothing of a bitmap is seen, however they might be cut or wrap.
func farPlaces() []int {
	return []int{math.MinInt, math.MinInt + 1, math.MinInt + 4, -1 << 58, -1 << 32, -1000, 1000, 1 << 31, 1 << 32, 1<<32 + 1, 1 << 58, 1<<58 + 1, 1 << 62, math.MaxInt - 4, math.MaxInt - 1, math.MaxInt}
}

// wrongBitmaps may not be.
func wrongBitmaps() []api.Bitmap {
	return []api.Bitmap{
		{},
		{Bits: []uint64{0}},
		{W: 1, H: 0},
		{W: 0, H: 1},
		{W: -1, H: -1, Bits: []uint64{0}},
		{W: 1, H: 1},
		{W: 1, H: 1, Bits: []uint64{0, 0}},
		{W: 1, H: 1, Bits: []uint64{1}},
		{W: 63, H: 1, Bits: []uint64{1}},
		{W: 65, H: 1, Bits: []uint64{0}},
		{W: 65, H: 2, Bits: []uint64{0, 0, 0, 1}},
		{W: 65, H: 2, Bits: []uint64{0, 1, 0, 0}},
		{W: 65, H: 2, Bits: []uint64{0, 0, 0}},
		{W: 1 << 32, H: 1 << 32},
		{W: math.MaxInt, H: 1},
		{W: math.MinInt, H: math.MinInt},
		{W: 64, H: 1<<14 + 1, Bits: make([]uint64, 1<<14+1)},
	}
}

// pixels is a raster the plainest way: rows of noughts and ones.
type pixels [][]int

func blank(w, h int) pixels {
	p := make(pixels, h)
	for y := range p {
		p[y] = make([]int, w)
	}
	return p
}

// black is a raster of ones.
func black(w, h int) pixels {
	p := blank(w, h)
	for y := range p {
		for x := range p[y] {
			p[y][x] = 1
		}
	}
	return p
}

// plain packs the pixels, one by one.
func (p pixels) plain() api.Bitmap {
	w, h := len(p[0]), len(p)
	stride := (w + 63) / 64
	b := api.Bitmap{W: w, H: h, Bits: make([]uint64, h*stride)}
	for y, row := range p {
		for x, bit := range row {
			b.Bits[y*stride+x/64] |= uint64(bit) << (63 - x%64)
		}
	}
	return b
}

// context is the one of a place that is not far, as the chapter says it.
func (p pixels) context(places []place, x, y int) int {
	text := ""
	for _, at := range places {
		i, j := x+at.right, y+at.down
		bit := 0
		if 0 <= j && j < len(p) && 0 <= i && i < len(p[j]) {
			bit = p[j][i]
		}
		text += strconv.Itoa(bit)
	}
	n, _ := strconv.ParseInt(text, 2, 64)
	return int(n)
}

// dice is a row of numbers that is the same in each run.
type dice uint64

func (d *dice) below(n int) int {
	*d += 0x9e3779b97f4a7c15
	z := uint64(*d)
	z = (z ^ z>>30) * 0xbf58476d1ce4e5b9
	z = (z ^ z>>27) * 0x94d049bb133111eb
	return int((z ^ z>>31) % uint64(n))
}

// wide tells widths, those about whole words more often.
func (d *dice) wide() int {
	if d.below(2) == 0 {
		return []int{1, 2, 3, 4, 5, 63, 64, 65, 127, 128, 129}[d.below(11)]
	}
	return 1 + d.below(200)
}

// drawn is a raster of pixels that fall as they may.
func (d *dice) drawn(w, h int) pixels {
	p := blank(w, h)
	for y := range p {
		for x := range p[y] {
			p[y][x] = d.below(2)
		}
	}
	return p
}

func wantAt(t *testing.T, b api.Bitmap, template, x, y, want int, wantErr api.Errno) {
	t.Helper()
	if n, err := context.At(b, template, x, y); n != want || err != wantErr {
		t.Fatalf("%d times %d, At(%d, %d, %d): %d, error %d, want %d, error %d", b.W, b.H, template, x, y, n, err, want, wantErr)
	}
}

func wantRow(t *testing.T, b api.Bitmap, template, y int, want []int, wantErr api.Errno) {
	t.Helper()
	l, err := context.Row(b, template, y)
	if err != wantErr {
		t.Fatalf("%d times %d, Row(%d, %d): error %d, want %d", b.W, b.H, template, y, err, wantErr)
	}
	if !slices.Equal(l, want) {
		t.Fatalf("%d times %d, Row(%d, %d): %.100v, want %.100v", b.W, b.H, template, y, l, want)
	}
}
