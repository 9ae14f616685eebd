package dict_test

import (
	"bytes"
	"encoding/binary"
	"math"
	"slices"
	"testing"

	"burin/api"
	"burin/arith"
	"burin/bitmap"
	"burin/dict"
	"burin/generic"
	"burin/whole"
)

// Where the chapter lets the procedures begin.
const (
	heights = 0
	widths  = 512
	runs    = 1024
	pixels  = 1536
)

const none = 1 << 40 // stands for none among the numbers

// sizes are the contexts of each template.
var sizes = [4]int{65536, 8192, 1024, 1024}

// item is what is coded by one procedure: a number, or a bitmap.
type item struct {
	base int
	n    int64
	b    api.Bitmap
}

func height(n int64) item     { return item{base: heights, n: n} }
func width(n int64) item      { return item{base: widths, n: n} }
func run(n int64) item        { return item{base: runs, n: n} }
func image(b api.Bitmap) item { return item{base: pixels, b: b} }

// itemsOf tells a dictionary as the chapter's words do.
func itemsOf(d api.Dict) []item {
	var l []item
	for i, b := range d.New {
		begins := i == 0 || d.New[i-1].H != b.H
		switch {
		case i == 0:
			l = append(l, height(int64(b.H)))
		case begins:
			l = append(l, width(none), height(int64(b.H-d.New[i-1].H)))
		}
		ahead := 0
		if !begins {
			ahead = d.New[i-1].W
		}
		l = append(l, width(int64(b.W-ahead)), image(b))
	}
	if len(d.New) > 0 {
		l = append(l, width(none))
	}
	return append(l, flagsOf(d.Export)...)
}

// flagsOf takes away one run behind the other from the left.
func flagsOf(flags []bool) []item {
	var l []item
	for flag := false; len(flags) > 0; flag = !flag {
		n := slices.Index(flags, !flag)
		if n < 0 {
			n = len(flags)
		}
		l = append(l, run(int64(n)))
		flags = flags[n:]
	}
	return l
}

// coded makes bytes of items, behind a template and a number of new symbols.
func coded(template int, count uint64, l ...item) []byte {
	c, _ := arith.New(1536 + sizes[template] + 1)
	for _, x := range l {
		if x.base == pixels {
			generic.Put(c, pixels, x.b, template, false)
		} else {
			putNumber(c, x.base, x.n)
		}
	}
	f, _ := c.Flush()
	return slices.Concat([]byte{byte(template)}, binary.AppendUvarint(nil, count), f)
}

// putNumber spells the bits of a number, of one beyond MaxWhole, too, that package whole would refuse.
func putNumber(c *arith.Coder, base int, n int64) {
	v := 1
	put := func(bits uint64, width int) {
		for width--; width >= 0; width-- {
			bit := int(bits >> width & 1)
			c.Put(base+v, bit)
			v = 2*v + bit
			if v >= 512 {
				v = v%256 + 256
			}
		}
	}
	if n == none {
		put(0b1000, 4)
		return
	}
	m := uint64(n)
	if n < 0 {
		put(1, 1)
		m = -m
	} else {
		put(0, 1)
	}
	switch {
	case m < 4:
		put(0, 1)
		put(m, 2)
	case m < 20:
		put(0b10, 2)
		put(m-4, 4)
	case m < 84:
		put(0b110, 3)
		put(m-20, 6)
	case m < 340:
		put(0b1110, 4)
		put(m-84, 8)
	case m < 4436:
		put(0b11110, 5)
		put(m-340, 12)
	default:
		put(0b11111, 5)
		put(m-4436, 32)
	}
}

// told reads bytes as the chapter's words do, in steps: a height where no class is open, else a width.
func told(f []byte, imported int) (api.Dict, api.Errno) {
	if len(f) == 0 || f[0] > 3 {
		return api.Dict{}, api.ErrDictForm
	}
	count, length := binary.Uvarint(f[1:])
	if length <= 0 || length > 1 && f[length] == 0 {
		return api.Dict{}, api.ErrDictForm
	}
	if count > 4096 || count+uint64(imported) > 4096 {
		return api.Dict{}, api.ErrTooBig
	}
	d := api.Dict{Template: int(f[0])}
	dec, _ := arith.NewDecoder(f[1+length:], 1536+sizes[d.Template]+1)
	open, w, h, area := false, 0, 0, 0
	for open || len(d.New) < int(count) {
		base := heights
		if open {
			base = widths
		}
		n, err := whole.Get(dec, base)
		v := int(n.V)
		switch {
		case err != api.OK:
			return api.Dict{}, api.ErrDictForm
		case !open && (n.None || v < 1):
			return api.Dict{}, api.ErrDictForm
		case !open && h+v > 1<<20:
			return api.Dict{}, api.ErrTooBig
		case !open:
			open, w, h = true, 0, h+v
		case n.None && w == 0:
			return api.Dict{}, api.ErrDictForm
		case n.None:
			open = false
		case len(d.New) == int(count) || v < 0 || w+v < 1:
			return api.Dict{}, api.ErrDictForm
		case (w+v)*h > 1<<20 || area+(w+v)*h > 1<<20:
			return api.Dict{}, api.ErrTooBig
		default:
			w += v
			area += w * h
			b, _ := generic.Get(dec, pixels, w, h, d.Template, false)
			d.New = append(d.New, b)
		}
	}
	return toldFlags(d, dec, imported+len(d.New))
}

func toldFlags(d api.Dict, dec *arith.Decoder, count int) (api.Dict, api.Errno) {
	for i := 0; len(d.Export) < count; i++ {
		n, err := whole.Get(dec, runs)
		if err != api.OK || n.None || n.V < 0 || n.V == 0 && i > 0 || n.V > int64(count-len(d.Export)) {
			return api.Dict{}, api.ErrDictForm
		}
		for range n.V {
			d.Export = append(d.Export, i%2 == 1)
		}
	}
	return d, api.OK
}

// dice tells numbers that are the same in each run.
type dice uint64

func (d *dice) below(n int) int {
	*d += 0x9e3779b97f4a7c15
	z := uint64(*d)
	z = (z ^ z>>30) * 0xbf58476d1ce4e5b9
	z = (z ^ z>>27) * 0x94d049bb133111eb
	return int((z ^ z>>31) % uint64(n))
}

// drawn is a bitmap of pixels that fall as they may.
func (d *dice) drawn(w, h int) api.Bitmap {
	m, _ := bitmap.New(w, h)
	of := 2 + d.below(4)
	for i := range w * h {
		if d.below(of) == 0 {
			m.Set(i%w, i/w, 1)
		}
	}
	return m.Plain()
}

// symbols are n bitmaps of any sizes, some of them equal.
func (d *dice) symbols(n int) []api.Bitmap {
	wide := []int{1, 2, 3, 4, 5, 8, 25, 63, 64, 65, 130}
	var l []api.Bitmap
	for range n {
		if len(l) > 0 && d.below(4) == 0 {
			l = append(l, l[d.below(len(l))])
			continue
		}
		l = append(l, d.drawn(wide[d.below(len(wide))], 1+d.below(6)*d.below(6)))
	}
	return l
}

// flags fall as they may; in one of four runs of flags all are alike.
func (d *dice) flags(n int) []bool {
	of := 1 + d.below(4)
	flags := make([]bool, n)
	for i := range flags {
		flags[i] = d.below(of) == 0
	}
	return flags
}

// dict is a dictionary that may be, with the symbols that it imports.
func (d *dice) dict() (api.Dict, []api.Bitmap) {
	imported := d.symbols(d.below(4))
	l := d.symbols(d.below(9))
	slices.SortStableFunc(l, func(a, b api.Bitmap) int { return 1000*(a.H-b.H) + a.W - b.W })
	return api.Dict{Template: d.below(4), New: l, Export: d.flags(len(imported) + len(l))}, imported
}

func (d *dice) noise(n int) []byte {
	b := make([]byte, n)
	for i := range b {
		b[i] = byte(d.below(256))
		if d.below(4) == 0 {
			b[i] = []byte{0, 0x7f, 0x8f, 0x90, 0xff, 0xff}[d.below(6)]
		}
	}
	return b
}

// blank is a white bitmap.
func blank(w, h int) api.Bitmap {
	return api.Bitmap{W: w, H: h, Bits: make([]uint64, h*((w+63)/64))}
}

// blanks are n white bitmaps of a size; they share memory.
func blanks(n, w, h int) []api.Bitmap {
	return slices.Repeat([]api.Bitmap{blank(w, h)}, n)
}

// plain is a dictionary that hands on nothing.
func plain(imported int, l ...api.Bitmap) api.Dict {
	return api.Dict{Template: 2, New: l, Export: make([]bool, imported+len(l))}
}

// wrongBitmaps may not be.
func wrongBitmaps() []api.Bitmap {
	l := []api.Bitmap{
		{},
		{Bits: []uint64{0}},
		{W: 1, H: 1},
		{W: 1, H: 1, Bits: []uint64{0, 0}},
		{W: 1, H: 1, Bits: []uint64{1}},
		{W: 65, H: 2, Bits: []uint64{0, 1, 0, 0}},
		{W: 65, H: 2, Bits: []uint64{0, 0, 0, 1}},
		{W: 65, H: 2, Bits: []uint64{0, 0, 0}},
		{W: 64, H: 1<<14 + 1, Bits: make([]uint64, 1<<14+1)},
	}
	edges := []int{math.MinInt, -1 << 32, -1, 0, 1, 64, 1 << 20, 1<<20 + 1, 1 << 32, 1 << 62, math.MaxInt}
	for _, w := range edges {
		for _, h := range edges {
			if w < 1 || h < 1 || w > api.MaxArea/h {
				l = append(l, api.Bitmap{W: w, H: h, Bits: []uint64{0}})
			}
		}
	}
	return l
}

func sameDict(a, b api.Dict) bool {
	return a.Template == b.Template && slices.EqualFunc(a.New, b.New, bitmap.Equal) && slices.Equal(a.Export, b.Export)
}

func wantEncode(t *testing.T, d api.Dict, imported []api.Bitmap, want []byte) {
	t.Helper()
	if f, err := dict.Encode(d, imported); err != api.OK || !bytes.Equal(f, want) {
		t.Fatalf("Encode(%d new symbols, %d imported): %.50x, error %d, want %.50x", len(d.New), len(imported), f, err, want)
	}
}

func wantDecode(t *testing.T, f []byte, imported []api.Bitmap, want api.Dict) {
	t.Helper()
	if d, err := dict.Decode(f, imported); err != api.OK || !sameDict(d, want) {
		t.Fatalf("Decode(%.50x, %d imported): %d new symbols, %v, error %d, want %d, %v", f, len(imported), len(d.New), d.Export, err, len(want.New), want.Export)
	}
}

func wantExported(t *testing.T, d api.Dict, imported, want []api.Bitmap) {
	t.Helper()
	if l, err := dict.Exported(d, imported); err != api.OK || !slices.EqualFunc(l, want, bitmap.Equal) {
		t.Fatalf("Exported(%v): %d symbols, error %d, want %d", d.Export, len(l), err, len(want))
	}
}

// wantRefused asks Encode and Exported, which have the same errors.
func wantRefused(t *testing.T, d api.Dict, imported []api.Bitmap, want api.Errno) {
	t.Helper()
	if f, err := dict.Encode(d, imported); err != want || f != nil {
		t.Fatalf("Encode(%d new symbols, %d imported): %.50x, error %d, want %d", len(d.New), len(imported), f, err, want)
	}
	if l, err := dict.Exported(d, imported); err != want || l != nil {
		t.Fatalf("Exported(%d new symbols, %d imported): %d symbols, error %d, want %d", len(d.New), len(imported), len(l), err, want)
	}
}

func wantNotDecoded(t *testing.T, f []byte, imported []api.Bitmap, want api.Errno) {
	t.Helper()
	if d, err := dict.Decode(f, imported); err != want || d.Template != 0 || d.New != nil || d.Export != nil {
		t.Fatalf("Decode(%.50x, %d imported): %d new symbols, error %d, want %d", f, len(imported), len(d.New), err, want)
	}
}
