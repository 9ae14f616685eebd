package text_test

import (
	"bytes"
	"encoding/binary"
	"math"
	"slices"
	"testing"

	"burin/api"
	"burin/arith"
	"burin/bitmap"
	"burin/refine"
	"burin/text"
	"burin/whole"
)

// Where the chapter lets the procedures begin, and how many contexts there are.
const (
	strips = 0
	firsts = 512
	steps  = 1024
	rows   = 1536
	ids    = 2048
	flags  = 6144
	pixels = 6145
	all    = 14337
)

const none = 1 << 40 // stands for none among the numbers

// item is what is coded by one procedure: a number, an ID of a width, a bit, or a bitmap by its symbol.
type item struct {
	base   int
	n      int64
	width  int
	b, ref api.Bitmap
}

func strip(n int64) item           { return item{base: strips, n: n} }
func first(n int64) item           { return item{base: firsts, n: n} }
func step(n int64) item            { return item{base: steps, n: n} }
func row(n int64) item             { return item{base: rows, n: n} }
func id(width int, n int64) item   { return item{base: ids, n: n, width: width} }
func flag(n int64) item            { return item{base: flags, n: n} }
func image(b, ref api.Bitmap) item { return item{base: pixels, b: b, ref: ref} }

// floor divides, rounded down.
func floor(n, by int) int {
	if n%by < 0 {
		return n/by - 1
	}
	return n / by
}

// heightOf tells how many rows a strip has.
func heightOf(t api.Text) int {
	if t.Strip < 0 || t.Strip > 3 {
		return 1
	}
	return []int{1, 2, 4, 8}[t.Strip]
}

// isAhead tells whether an instance stands ahead of another one that is handed in ahead of it.
func isAhead(t api.Text, a, b api.Instance) bool {
	one, two := floor(a.Y, heightOf(t)), floor(b.Y, heightOf(t))
	switch {
	case one != two:
		return one < two
	case a.X != b.X:
		return a.X < b.X
	}
	return a.Y < b.Y
}

// sortedOf puts one instance behind the other to its place.
func sortedOf(t api.Text) []api.Instance {
	var l []api.Instance
	for _, i := range t.L {
		at := len(l)
		for at > 0 && isAhead(t, i, l[at-1]) {
			at--
		}
		l = slices.Insert(l, at, i)
	}
	return l
}

// widthOf tells the width of IDs.
func widthOf(symbols int) int {
	width, most := 0, 1
	for most < symbols {
		width, most = width+1, 2*most
	}
	return width
}

// itemsOf tells a region as the chapter's words do.
func itemsOf(t api.Text, symbols []api.Bitmap) []item {
	var l []item
	before, begin := 0, 0
	ordered := sortedOf(t)
	for k, i := range ordered {
		at := floor(i.Y, heightOf(t))
		if k == 0 || at != before {
			l = append(l, strip(int64(at-before)), first(int64(i.X-begin)))
			before, begin = at, i.X
		} else {
			l = append(l, step(int64(i.X-ordered[k-1].X)))
		}
		if t.Strip > 0 {
			l = append(l, row(int64(i.Y-at*heightOf(t))))
		}
		l = append(l, id(widthOf(len(symbols)), int64(i.Symbol)))
		switch {
		case i.Differ:
			l = append(l, flag(1), image(i.B, symbols[i.Symbol]))
		case t.Refine:
			l = append(l, flag(0))
		}
		if k+1 == len(ordered) || floor(ordered[k+1].Y, heightOf(t)) != at {
			l = append(l, step(none))
		}
	}
	return l
}

// headOf is what stands ahead of the decisions.
func headOf(t api.Text, count int) []byte {
	form := t.Op | t.Default<<4 | t.Strip<<5
	if t.Refine {
		form |= 8
	}
	return head(uint64(t.X), uint64(t.Y), uint64(t.W), uint64(t.H), byte(form), uint64(count))
}

func head(x, y, w, h uint64, form byte, count uint64) []byte {
	var b []byte
	for _, n := range []uint64{x, y, w, h} {
		b = binary.AppendUvarint(b, n)
	}
	return binary.AppendUvarint(append(b, form), count)
}

// coded makes bytes of items, behind a head.
func coded(head []byte, l ...item) []byte {
	c, _ := arith.New(all)
	for _, x := range l {
		switch x.base {
		case ids:
			putID(c, x.width, x.n)
		case flags:
			c.Put(flags, int(x.n))
		case pixels:
			refine.Put(c, pixels, x.b, x.ref, 0, 0)
		default:
			putNumber(c, x.base, x.n)
		}
	}
	f, _ := c.Flush()
	return append(slices.Clone(head), f...)
}

// bytesOf are a region's bytes.
func bytesOf(t api.Text, symbols []api.Bitmap) []byte {
	return coded(headOf(t, len(t.L)), itemsOf(t, symbols)...)
}

// putID spells the bits of an ID, the highest first.
func putID(c *arith.Coder, width int, id int64) {
	v := 1
	for width--; width >= 0; width-- {
		bit := int(id >> width & 1)
		c.Put(ids+v, bit)
		v = 2*v + bit
	}
}

// putNumber spells the bits of a number, of one beyond MaxWhole, too, that package whole would refuse.
func putNumber(c *arith.Coder, base int, n int64) {
	v := 1
	put := func(bits uint64, width int) {
		for width--; width >= 0; width-- {
			bit := int(bits >> width & 1)
			c.Put(base+v, bit)
			v = 2*v + bit
			if v >= 512 {
				v = v%256 + 256
			}
		}
	}
	if n == none {
		put(0b1000, 4)
		return
	}
	m := uint64(n)
	if n < 0 {
		put(1, 1)
		m = -m
	} else {
		put(0, 1)
	}
	switch {
	case m < 4:
		put(0, 1)
		put(m, 2)
	case m < 20:
		put(0b10, 2)
		put(m-4, 4)
	case m < 84:
		put(0b110, 3)
		put(m-20, 6)
	case m < 340:
		put(0b1110, 4)
		put(m-84, 8)
	case m < 4436:
		put(0b11110, 5)
		put(m-340, 12)
	default:
		put(0b11111, 5)
		put(m-4436, 32)
	}
}

// told reads bytes as the chapter's words do; the symbols may be, and are not too many.
func told(f []byte, symbols []api.Bitmap) (api.Text, api.Errno) {
	t, count, rest, err := toldHead(f, len(symbols))
	if err == api.OK {
		t.L, err = toldInstances(t, count, rest, symbols)
	}
	if err != api.OK {
		return api.Text{}, err
	}
	return t, api.OK
}

// toldHead asks for each thing as soon as it is read.
func toldHead(f []byte, symbols int) (t api.Text, count int, rest []byte, err api.Errno) {
	var n [5]uint64
	var form byte
	for i := range n {
		if i == 4 {
			if len(f) == 0 || f[0]&7 > 4 || f[0] > 127 {
				return t, 0, nil, api.ErrTextForm
			}
			form, f = f[0], f[1:]
		}
		v, length := binary.Uvarint(f)
		switch {
		case length <= 0 || length > 1 && f[length-1] == 0:
			return t, 0, nil, api.ErrTextForm
		case i < 2 && v > 1<<20 || (i == 2 || i == 3) && v == 0 || i == 4 && v > 0 && symbols == 0:
			return t, 0, nil, api.ErrTextForm
		case i == 3 && (n[2] > 1<<20 || v > 1<<20 || n[2]*v > 1<<20) || i == 4 && v > 16384:
			return t, 0, nil, api.ErrTooBig
		}
		n[i], f = v, f[length:]
	}
	t = api.Text{X: int(n[0]), Y: int(n[1]), W: int(n[2]), H: int(n[3]), Op: int(form & 7), Refine: form&8 != 0, Default: int(form >> 4 & 1), Strip: int(form >> 5)}
	return t, int(n[4]), f, api.OK
}

// toldInstances goes from decision to decision: a strip and a first where no strip is open, else a step.
func toldInstances(t api.Text, count int, f []byte, symbols []api.Bitmap) ([]api.Instance, api.Errno) {
	d, _ := arith.NewDecoder(f, all)
	var l []api.Instance
	open, at, begin, x, area := false, 0, 0, 0, 0
	for open || len(l) < count {
		if !open {
			s, e1 := whole.Get(d, strips)
			if e1 != api.OK || s.None || s.V < 1 && len(l) > 0 {
				return nil, api.ErrTextForm
			}
			n, e2 := whole.Get(d, firsts)
			if e2 != api.OK || n.None {
				return nil, api.ErrTextForm
			}
			open, at, begin = true, at+int(s.V), begin+int(n.V)
			x = begin
		} else {
			n, err := whole.Get(d, steps)
			if n.None {
				open = false
				continue
			}
			if err != api.OK || n.V < 0 || len(l) == count {
				return nil, api.ErrTextForm
			}
			x += int(n.V)
		}
		i, err := toldInstance(t, d, symbols, area)
		i.X, i.Y = x, i.Y+at*heightOf(t)
		if max(i.X, i.Y, -i.X, -i.Y) > 1<<20 {
			return nil, api.ErrTextForm
		}
		if err != api.OK {
			return nil, err
		}
		area += i.B.W * i.B.H
		l = append(l, i)
	}
	return l, api.OK
}

// toldInstance tells what stands behind an X; Y is the row.
func toldInstance(t api.Text, d *arith.Decoder, symbols []api.Bitmap, area int) (api.Instance, api.Errno) {
	i := api.Instance{}
	if t.Strip > 0 {
		n, err := whole.Get(d, rows)
		if err != api.OK || n.None || n.V < 0 || int(n.V) >= heightOf(t) {
			return i, api.ErrTextForm
		}
		i.Y = int(n.V)
	}
	i.Symbol, _ = whole.GetID(d, ids, widthOf(len(symbols)))
	if i.Symbol >= len(symbols) {
		return i, api.ErrTextForm
	}
	if !t.Refine {
		return i, api.OK
	}
	bit, _ := d.Get(flags)
	if bit == 0 {
		return i, api.OK
	}
	s := symbols[i.Symbol]
	if area+s.W*s.H > 1<<20 {
		return i, api.ErrTooBig
	}
	i.Differ = true
	i.B, _ = refine.Get(d, pixels, s.W, s.H, s, 0, 0)
	if bitmap.Equal(i.B, s) {
		return i, api.ErrTextForm
	}
	return i, api.OK
}

// pixelAt tells a pixel of a bitmap.
func pixelAt(b api.Bitmap, x, y int) int {
	return int(b.Bits[y*((b.W+63)/64)+x/64] >> (63 - x%64) & 1)
}

// made is what an operation makes of two pixels.
func made(op, d, s int) int {
	switch op {
	case api.OpOr:
		return max(d, s)
	case api.OpAnd:
		return min(d, s)
	case api.OpXor:
		return (d + s) % 2
	case api.OpXnor:
		return (d + s + 1) % 2
	}
	return s
}

// pictureOf draws a region pixel by pixel.
func pictureOf(t api.Text, symbols []api.Bitmap) api.Bitmap {
	m, _ := bitmap.New(t.W, t.H)
	for k := range t.W * t.H {
		m.Set(k%t.W, k/t.W, t.Default)
	}
	for _, i := range sortedOf(t) {
		b := i.B
		if !i.Differ {
			b = symbols[i.Symbol]
		}
		for k := range b.W * b.H {
			x, y := i.X+k%b.W, i.Y+k/b.W
			m.Set(x, y, made(t.Op, m.Get(x, y), pixelAt(b, k%b.W, k/b.W)))
		}
	}
	return m.Plain()
}

// dice tells numbers that are the same in each run.
type dice uint64

func (d *dice) below(n int) int {
	*d += 0x9e3779b97f4a7c15
	z := uint64(*d)
	z = (z ^ z>>30) * 0xbf58476d1ce4e5b9
	z = (z ^ z>>27) * 0x94d049bb133111eb
	return int((z ^ z>>31) % uint64(n))
}

// drawn is a bitmap of pixels that fall as they may.
func (d *dice) drawn(w, h int) api.Bitmap {
	m, _ := bitmap.New(w, h)
	of := 2 + d.below(4)
	for i := range w * h {
		if d.below(of) == 0 {
			m.Set(i%w, i/w, 1)
		}
	}
	return m.Plain()
}

// other is a bitmap of the same size of which some pixels are others, at least one.
func (d *dice) other(b api.Bitmap) api.Bitmap {
	m, _ := bitmap.From(b)
	x, y := d.below(b.W), d.below(b.H)
	for range d.below(4) {
		m.Set(d.below(b.W), d.below(b.H), d.below(2))
	}
	m.Set(x, y, 1-pixelAt(b, x, y))
	return m.Plain()
}

// symbols are n bitmaps of any sizes, some of them equal.
func (d *dice) symbols(n int) []api.Bitmap {
	wide := []int{1, 2, 3, 4, 5, 8, 25, 63, 64, 65, 130}
	var l []api.Bitmap
	for range n {
		if len(l) > 0 && d.below(4) == 0 {
			l = append(l, l[d.below(len(l))])
			continue
		}
		l = append(l, d.drawn(wide[d.below(len(wide))], 1+d.below(5)*d.below(5)))
	}
	return l
}

// place is near, or as far as may be; near ones are often alike.
func (d *dice) place() int {
	switch d.below(12) {
	case 0:
		return []int{-1 << 20, 1<<20 - 1, 1 << 20, -1<<20 + 1, -400, 5000}[d.below(6)]
	case 1, 2, 3:
		return d.below(120) - 30
	}
	return d.below(12) - 3
}

// region is one that may be, with its symbols.
func (d *dice) region() (api.Text, []api.Bitmap) {
	symbols := d.symbols(d.below(9))
	corners := []int{0, 1, 127, 128, 300, 1 << 14, 1<<20 - 1, 1 << 20}
	t := api.Text{X: corners[d.below(8)], Y: corners[d.below(8)], W: 1 + d.below(140), H: 1 + d.below(40), Op: d.below(5), Refine: d.below(2) == 0, Default: d.below(2), Strip: d.below(4)}
	if len(symbols) == 0 {
		return t, nil
	}
	for range d.below(14) {
		i := api.Instance{X: d.place(), Y: d.place(), Symbol: d.below(len(symbols))}
		if t.Refine && d.below(3) == 0 {
			i.Differ, i.B = true, d.other(symbols[i.Symbol])
		}
		t.L = append(t.L, i)
	}
	return t, symbols
}

func (d *dice) noise(n int) []byte {
	b := make([]byte, n)
	for i := range b {
		b[i] = byte(d.below(256))
		if d.below(4) == 0 {
			b[i] = []byte{0, 0x7f, 0x8f, 0x90, 0xff, 0xff}[d.below(6)]
		}
	}
	return b
}

// blank is a white bitmap.
func blank(w, h int) api.Bitmap {
	return api.Bitmap{W: w, H: h, Bits: make([]uint64, h*((w+63)/64))}
}

// spot is a white bitmap but for its first pixel.
func spot(w, h int) api.Bitmap {
	b := blank(w, h)
	b.Bits[0] = 1 << 63
	return b
}

// blanks are n white bitmaps of a size; they share memory.
func blanks(n, w, h int) []api.Bitmap {
	return slices.Repeat([]api.Bitmap{blank(w, h)}, n)
}

// plain is a region of 9 times 7 pixels.
func plain(l ...api.Instance) api.Text {
	return api.Text{W: 9, H: 7, Refine: true, Strip: 1, L: l}
}

// wrongBitmaps may not be.
func wrongBitmaps() []api.Bitmap {
	l := []api.Bitmap{
		{},
		{Bits: []uint64{0}},
		{W: 1, H: 1},
		{W: 1, H: 1, Bits: []uint64{0, 0}},
		{W: 1, H: 1, Bits: []uint64{1}},
		{W: 65, H: 2, Bits: []uint64{0, 1, 0, 0}},
		{W: 65, H: 2, Bits: []uint64{0, 0, 0, 1}},
		{W: 65, H: 2, Bits: []uint64{0, 0, 0}},
		{W: 64, H: 1<<14 + 1, Bits: make([]uint64, 1<<14+1)},
	}
	for _, s := range wrongSizes() {
		l = append(l, api.Bitmap{W: s[0], H: s[1], Bits: []uint64{0}})
	}
	return l
}

// wrongSizes are no bitmap's.
func wrongSizes() [][2]int {
	var l [][2]int
	edges := []int{math.MinInt, -1 << 32, -1, 0, 1, 64, 1024, 1025, 1 << 20, 1<<20 + 1, 1 << 32, 1 << 62, math.MaxInt}
	for _, w := range edges {
		for _, h := range edges {
			if w < 1 || h < 1 || w > api.MaxArea/h {
				l = append(l, [2]int{w, h})
			}
		}
	}
	return l
}

func sameBitmap(a, b api.Bitmap) bool {
	return a.W == b.W && a.H == b.H && slices.Equal(a.Bits, b.Bits)
}

func sameInstance(a, b api.Instance) bool {
	return a.X == b.X && a.Y == b.Y && a.Symbol == b.Symbol && a.Differ == b.Differ && sameBitmap(a.B, b.B)
}

func sameText(a, b api.Text) bool {
	return a.X == b.X && a.Y == b.Y && a.W == b.W && a.H == b.H && a.Op == b.Op && a.Refine == b.Refine && a.Default == b.Default && a.Strip == b.Strip && slices.EqualFunc(a.L, b.L, sameInstance)
}

// sketch leaves out all but the first instances: there may be a great many.
func sketch(r api.Text) api.Text {
	r.L = r.L[:min(len(r.L), 5)]
	return r
}

func wantEncode(t *testing.T, r api.Text, symbols []api.Bitmap, want []byte) {
	t.Helper()
	if f, err := text.Encode(r, symbols); err != api.OK || !bytes.Equal(f, want) {
		t.Fatalf("Encode(%d instances, %d symbols): %.50x, error %d, want %.50x", len(r.L), len(symbols), f, err, want)
	}
}

func wantDecode(t *testing.T, f []byte, symbols []api.Bitmap, want api.Text) {
	t.Helper()
	if r, err := text.Decode(f, symbols); err != api.OK || !sameText(r, want) {
		t.Fatalf("Decode(%.50x, %d symbols): error %d, %v, want %v", f, len(symbols), err, sketch(r), sketch(want))
	}
}

// wantBoth asks for a region's bytes, and for the region of these.
func wantBoth(t *testing.T, r api.Text, symbols []api.Bitmap) {
	t.Helper()
	f := bytesOf(r, symbols)
	wantEncode(t, r, symbols, f)
	r.L = sortedOf(r)
	wantDecode(t, f, symbols, r)
}

func wantDraw(t *testing.T, r api.Text, symbols []api.Bitmap, want api.Bitmap) {
	t.Helper()
	if b, err := text.Draw(r, symbols); err != api.OK || !sameBitmap(b, want) {
		t.Fatalf("Draw(%d instances, %d symbols): error %d, %v, want %v", len(r.L), len(symbols), err, b, want)
	}
}

func wantSorted(t *testing.T, r api.Text, want []api.Instance) {
	t.Helper()
	if l := text.Sorted(r); !slices.EqualFunc(l, want, sameInstance) {
		t.Fatalf("Sorted(%v): %v, want %v", r, l, want)
	}
}

// wantRefused asks Encode and Draw, which have the same errors.
func wantRefused(t *testing.T, r api.Text, symbols []api.Bitmap, want api.Errno) {
	t.Helper()
	if f, err := text.Encode(r, symbols); err != want || f != nil {
		t.Fatalf("Encode(%v, %d symbols): %.50x, error %d, want %d", sketch(r), len(symbols), f, err, want)
	}
	if b, err := text.Draw(r, symbols); err != want || b.W != 0 || b.H != 0 || b.Bits != nil {
		t.Fatalf("Draw(%v, %d symbols): %v, error %d, want %d", sketch(r), len(symbols), b, err, want)
	}
}

func wantNotDecoded(t *testing.T, f []byte, symbols []api.Bitmap, want api.Errno) {
	t.Helper()
	if r, err := text.Decode(f, symbols); err != want || !sameText(r, api.Text{}) {
		t.Fatalf("Decode(%.50x, %d symbols): error %d, %v, want %d", f, len(symbols), err, r, want)
	}
}
