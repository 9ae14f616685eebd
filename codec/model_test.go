package codec_test

import (
	"bytes"
	"math"
	"slices"
	"testing"

	"burin/api"
	"burin/bitmap"
	"burin/codec"
	"burin/file"
	"burin/plan"
)

var (
	inf   = math.Inf(1)
	minus = math.Copysign(0, -1)
)

// encoded goes by the chapter's words.
func encoded(pages []api.Bitmap, o api.Options) ([]byte, api.Errno) {
	l, err := plan.Segments(pages, o)
	if err != api.OK {
		return nil, err
	}
	f, _ := file.Write(l, o.Random)
	return f, api.OK
}

// smallest goes by the chapter's words.
func smallest(pages []api.Bitmap, l []api.Options) (int, []byte, api.Errno) {
	if len(l) == 0 || slices.ContainsFunc(l, func(o api.Options) bool { return !plan.Check(o) }) {
		return 0, nil, api.ErrOption
	}
	files := make([][]byte, len(l))
	for i, o := range l {
		f, err := encoded(pages, o)
		if err != api.OK {
			return 0, nil, err
		}
		files[i] = f
	}
	fewest := slices.MinFunc(files, func(a, b []byte) int { return len(a) - len(b) })
	best := slices.IndexFunc(files, func(f []byte) bool { return len(f) == len(fewest) })
	return best, files[best], api.OK
}

func samePages(a, b []api.Bitmap) bool {
	return slices.EqualFunc(a, b, bitmap.Equal)
}

// wantEncoded asks for what the chapter's words tell, and tells it.
func wantEncoded(t *testing.T, pages []api.Bitmap, o api.Options) []byte {
	t.Helper()
	want, fault := encoded(pages, o)
	f, err := codec.Encode(pages, o)
	if err != fault || !bytes.Equal(f, want) || fault != api.OK && f != nil {
		t.Fatalf("Encode(%d pages, %+v): %d bytes, error %d, want %d bytes, %d", len(pages), o, len(f), err, len(want), fault)
	}
	return f
}

// wantThereAndBack asks that pages are encoded, and decoded again (T1).
func wantThereAndBack(t *testing.T, pages []api.Bitmap, o api.Options) []byte {
	t.Helper()
	f, err := codec.Encode(pages, o)
	got, fault := codec.Decode(f)
	if err != api.OK || fault != api.OK || !samePages(got, pages) {
		t.Fatalf("Decode of Encode(%d pages, %+v): %d pages, errors %d, %d", len(pages), o, len(got), err, fault)
	}
	return f
}

// wantRefused asks Encode for an error, and for nothing beside it.
func wantRefused(t *testing.T, pages []api.Bitmap, o api.Options, want api.Errno) {
	t.Helper()
	if f, err := codec.Encode(pages, o); err != want || f != nil {
		t.Fatalf("Encode(%d pages, %+v): %d bytes, error %d, want %d", len(pages), o, len(f), err, want)
	}
}

// wantDecoded asks for what file.Read tells, and tells its error.
func wantDecoded(t *testing.T, f []byte) api.Errno {
	t.Helper()
	want, _, fault := file.Read(f)
	pages, err := codec.Decode(f)
	if err != fault || !samePages(pages, want) || fault != api.OK && pages != nil {
		t.Fatalf("Decode(%x): %d pages, error %d, want %d pages, %d", f, len(pages), err, len(want), fault)
	}
	return err
}

// wantFault asks Decode for an error, and for nothing beside it.
func wantFault(t *testing.T, f []byte, want api.Errno) {
	t.Helper()
	if pages, err := codec.Decode(f); err != want || pages != nil {
		t.Fatalf("Decode(%x): %d pages, error %d, want %d", f, len(pages), err, want)
	}
}

// wantSmallest asks for what the chapter's words tell, and tells it.
func wantSmallest(t *testing.T, pages []api.Bitmap, l []api.Options) (int, []byte) {
	t.Helper()
	number, want, fault := smallest(pages, l)
	best, f, err := codec.Smallest(pages, l)
	if best != number || err != fault || !bytes.Equal(f, want) || fault != api.OK && f != nil {
		t.Fatalf("Smallest(%d pages, %+v): %d, %d bytes, error %d, want %d, %d bytes, %d", len(pages), l, best, len(f), err, number, len(want), fault)
	}
	return best, f
}

// wantNoSmallest asks Smallest for an error, and for nothing beside it.
func wantNoSmallest(t *testing.T, pages []api.Bitmap, l []api.Options, want api.Errno) {
	t.Helper()
	if best, f, err := codec.Smallest(pages, l); best != 0 || err != want || f != nil {
		t.Fatalf("Smallest(%d pages, %+v): %d, %d bytes, error %d, want %d", len(pages), l, best, len(f), err, want)
	}
}

// raster is a bitmap of lines: # is black.
func raster(lines ...string) api.Bitmap {
	m, _ := bitmap.New(len(lines[0]), len(lines))
	for y, line := range lines {
		for x, c := range line {
			if c == '#' {
				m.Set(x, y, 1)
			}
		}
	}
	return m.Plain()
}

// counted is a page of n pieces, no two alike, if n is at most 8192: a row that is longer or shorter, and the bits of a number below it.
func counted(n int) api.Bitmap {
	m, _ := bitmap.New(1000, 1000)
	for i := range n {
		x, y := i%31*32, i/31*3
		m.Fill(x, y, 10+i>>9, 1, 1)
		for k := range 9 {
			m.Set(x+k, y+1, i>>k&1)
		}
	}
	return m.Plain()
}

// dice tells numbers that are the same in each run.
type dice uint64

func (d *dice) word() uint64 {
	*d += 0x9e3779b97f4a7c15
	z := uint64(*d)
	z = (z ^ z>>30) * 0xbf58476d1ce4e5b9
	z = (z ^ z>>27) * 0x94d049bb133111eb
	return z ^ z>>31
}

func (d *dice) below(n int) int {
	return int(d.word() % uint64(n))
}

// scattered is a bitmap of which about one of so many pixels is black.
func (d *dice) scattered(w, h, of int) api.Bitmap {
	m, _ := bitmap.New(w, h)
	for i := range w * h {
		if d.below(of) == 0 {
			m.Set(i%w, i/w, 1)
		}
	}
	return m.Plain()
}

// stamps are small bitmaps.
func (d *dice) stamps() []*bitmap.Map {
	var l []*bitmap.Map
	for range 1 + d.below(6) {
		m, _ := bitmap.From(d.scattered(1+d.below(5), 1+d.below(4), 1+d.below(3)))
		l = append(l, m)
	}
	return l
}

// pages are some on which few stamps stand, more or less worn, and dirt; or they are all black.
func (d *dice) pages() []api.Bitmap {
	stamps := d.stamps()
	var pages []api.Bitmap
	for range d.below(6) {
		w, h := 1+d.below(150), 1+d.below(40)
		m, _ := bitmap.From(d.scattered(w, h, 40+d.below(1000)))
		for range d.below(30) {
			stamp := stamps[d.below(len(stamps))]
			sw, sh := stamp.Size()
			x, y := d.below(w), d.below(h)
			m.Blit(stamp, 0, 0, sw, sh, x, y, api.OpOr)
			if d.below(4) == 0 {
				m.Set(x+d.below(sw), y+d.below(sh), d.below(2))
			}
		}
		if d.below(12) == 0 {
			m.Fill(0, 0, w, h, 1)
		}
		pages = append(pages, m.Plain())
	}
	return pages
}

func (d *dice) options() api.Options {
	tolerances := []float64{0, minus, 0.1, 0.25, 0.5, 1, inf, 5e-324}
	return api.Options{
		Mode:      d.below(4),
		Template:  d.below(4),
		Strip:     d.below(4),
		Stripe:    []int{0, 0, 1, 2, 3, 7, 40, api.MaxArea}[d.below(8)],
		Tolerance: tolerances[d.below(len(tolerances))],
		Random:    d.below(2) == 0,
	}
}

func (d *dice) manyOptions(n int) []api.Options {
	var l []api.Options
	for range n {
		l = append(l, d.options())
	}
	return l
}

func (d *dice) noise(n int) []byte {
	l := make([]byte, n)
	for i := range l {
		l[i] = byte(d.word())
	}
	return l
}

// farInts are numbers at the ends of all kinds.
func farInts() []int {
	return []int{math.MinInt, -1 << 32, -5, -1, 0, 1, 2, 3, 4, 5, 64, 1 << 20, 1<<20 + 1, 1 << 32, math.MaxInt}
}

// wrongOptions may not be.
func wrongOptions() []api.Options {
	return []api.Options{
		{Mode: -1}, {Mode: 4}, {Mode: math.MinInt}, {Mode: 1 << 32},
		{Template: -1}, {Template: 4}, {Template: math.MaxInt},
		{Strip: -1}, {Strip: 4}, {Strip: 1 << 40},
		{Stripe: -1}, {Stripe: api.MaxArea + 1}, {Stripe: math.MinInt},
		{Tolerance: math.NaN()}, {Tolerance: -1}, {Tolerance: -5e-324}, {Tolerance: math.Inf(-1)},
		{Mode: api.ModeRefine, Tolerance: math.NaN(), Random: true},
	}
}

// wrongBitmaps may not be.
func wrongBitmaps() []api.Bitmap {
	return []api.Bitmap{
		{},
		{W: 1, H: 1},
		{W: 0, H: 1},
		{W: -1, H: -1, Bits: []uint64{0}},
		{W: 1, H: 1, Bits: []uint64{1}},
		{W: 1, H: 1, Bits: []uint64{0, 0}},
		{W: 65, H: 2, Bits: []uint64{0, 0, 0, 1 << 62}},
		{W: 64, H: 1<<14 + 1, Bits: make([]uint64, 1<<14+1)},
		{W: math.MaxInt, H: math.MaxInt, Bits: []uint64{0}},
		{W: 1 << 32, H: 1 << 32},
	}
}
