package page_test

import (
	"bytes"
	"encoding/binary"
	"math"
	"math/big"
	"slices"
	"testing"

	"burin/api"
	"burin/bitmap"
	"burin/generic"
	"burin/page"
)

// vars are numbers as Vars, one behind the other.
func vars(l ...uint64) []byte {
	var f []byte
	for _, n := range l {
		f = binary.AppendUvarint(f, n)
	}
	return f
}

// sheetHead is a sheet's bytes, of whatever numbers.
func sheetHead(w, h uint64, bit byte, stripe uint64) []byte {
	return append(append(vars(w, h), bit), vars(stripe)...)
}

// regionHead is what stands ahead of a region's pixels, of whatever numbers.
func regionHead(x, y, w, h uint64, form byte) []byte {
	return append(vars(x, y, w, h), form)
}

func sheetBytes(s api.Sheet) []byte {
	return sheetHead(uint64(s.W), uint64(s.H), byte(s.Default), uint64(s.Stripe))
}

func regionBytes(r api.Region) []byte {
	form := r.Template | r.Op<<3
	if r.Skip {
		form |= 4
	}
	f, _ := generic.Encode(r.B, r.Template, r.Skip)
	return append(regionHead(uint64(r.X), uint64(r.Y), uint64(r.B.W), uint64(r.B.H), byte(form)), f...)
}

// toldVar reads a Var; the bytes behind it.
func toldVar(f []byte) (uint64, []byte, bool) {
	n, length := binary.Uvarint(f)
	if length <= 0 || length > 1 && f[length-1] == 0 {
		return 0, nil, false
	}
	return n, f[length:], true
}

// toldSize reads a width and a height; the bytes behind them.
func toldSize(f []byte) (w, h int, rest []byte, err api.Errno) {
	width, f, ok := toldVar(f)
	if !ok || width == 0 {
		return 0, 0, nil, api.ErrPageForm
	}
	height, f, ok := toldVar(f)
	if !ok || height == 0 {
		return 0, 0, nil, api.ErrPageForm
	}
	if width > 1<<20 || height > 1<<20 || width*height > 1<<20 {
		return 0, 0, nil, api.ErrTooBig
	}
	return int(width), int(height), f, api.OK
}

// toldSheet reads a sheet as the chapter's words do.
func toldSheet(f []byte) (api.Sheet, api.Errno) {
	w, h, f, err := toldSize(f)
	switch {
	case err != api.OK:
		return api.Sheet{}, err
	case len(f) == 0 || f[0] > 1:
		return api.Sheet{}, api.ErrPageForm
	}
	stripe, rest, ok := toldVar(f[1:])
	if !ok || stripe > 1<<20 || len(rest) > 0 {
		return api.Sheet{}, api.ErrPageForm
	}
	return api.Sheet{W: w, H: h, Default: int(f[0]), Stripe: int(stripe)}, api.OK
}

// toldRegion reads a region as the chapter's words do.
func toldRegion(f []byte) (api.Region, api.Errno) {
	x, f, ok := toldVar(f)
	if !ok || x > 1<<20 {
		return api.Region{}, api.ErrPageForm
	}
	y, f, ok := toldVar(f)
	if !ok || y > 1<<20 {
		return api.Region{}, api.ErrPageForm
	}
	w, h, f, err := toldSize(f)
	switch {
	case err != api.OK:
		return api.Region{}, err
	case len(f) == 0 || f[0] >= 64 || f[0]>>3 > 4:
		return api.Region{}, api.ErrPageForm
	}
	r := api.Region{X: int(x), Y: int(y), Op: int(f[0] >> 3), Template: int(f[0] & 3), Skip: f[0]&4 != 0}
	r.B, _ = generic.Decode(f[1:], w, h, r.Template, r.Skip)
	return r, api.OK
}

// model is a page as the chapter's words tell it, pixel by pixel.
type model struct {
	s     api.Sheet
	rows  [][]int
	ended []bool // of each row
	over  bool
}

func newModel(s api.Sheet) *model {
	m := &model{s: s, ended: make([]bool, s.H)}
	for range s.H {
		m.rows = append(m.rows, slices.Repeat([]int{s.Default}, s.W))
	}
	return m
}

func (m *model) next() int {
	for y, ended := range m.ended {
		if !ended {
			return y
		}
	}
	return m.s.H
}

// add reckons with numbers that have no bound.
func (m *model) add(x, y, op int, b api.Bitmap) api.Errno {
	if op < 0 || op > 4 || !bitmap.Check(b) {
		return api.ErrPageForm
	}
	bottom := sum(y, b.H)
	if m.over || y < m.next() || m.s.Stripe != 0 && bottom.Cmp(sum(m.next(), m.s.Stripe)) > 0 {
		return api.ErrPageOrder
	}
	for j := range b.H {
		for i := range b.W {
			m.lay(sum(x, i), sum(y, j), op, pixelAt(b, i, j))
		}
	}
	return api.OK
}

func (m *model) lay(x, y *big.Int, op, pixel int) {
	if !isBelow(x, m.s.W) || !isBelow(y, m.s.H) {
		return
	}
	at := &m.rows[y.Int64()][x.Int64()]
	*at = made(op, *at, pixel)
}

func (m *model) stripe(last int) api.Errno {
	from := m.next()
	if m.over || m.s.Stripe == 0 || from == m.s.H {
		return api.ErrPageOrder
	}
	if last != m.s.H-1 && last != from+m.s.Stripe-1 || last >= m.s.H || last > from+m.s.Stripe-1 {
		return api.ErrPageOrder
	}
	for y := range last + 1 {
		m.ended[y] = true
	}
	return api.OK
}

func (m *model) end() (api.Bitmap, api.Errno) {
	if m.over || m.s.Stripe != 0 && m.next() < m.s.H {
		return api.Bitmap{}, api.ErrPageOrder
	}
	m.over = true
	for y := range m.ended {
		m.ended[y] = true
	}
	return m.picture(), api.OK
}

func (m *model) picture() api.Bitmap {
	b := blank(m.s.W, m.s.H)
	stride := len(b.Bits) / b.H
	for y, row := range m.rows {
		for x, pixel := range row {
			b.Bits[y*stride+x/64] |= uint64(pixel) << (63 - x%64)
		}
	}
	return b
}

func sum(a, b int) *big.Int {
	return new(big.Int).Add(big.NewInt(int64(a)), big.NewInt(int64(b)))
}

func isBelow(n *big.Int, end int) bool {
	return n.Sign() >= 0 && n.Cmp(big.NewInt(int64(end))) < 0
}

// pixelAt tells a pixel of a bitmap.
func pixelAt(b api.Bitmap, x, y int) int {
	return int(b.Bits[y*((b.W+63)/64)+x/64] >> (63 - x%64) & 1)
}

// made is what an operation makes of two pixels.
func made(op, d, s int) int {
	switch op {
	case api.OpOr:
		return max(d, s)
	case api.OpAnd:
		return min(d, s)
	case api.OpXor:
		return (d + s) % 2
	case api.OpXnor:
		return (d + s + 1) % 2
	}
	return s
}

// dice tells numbers that are the same in each run.
type dice uint64

func (d *dice) below(n int) int {
	*d += 0x9e3779b97f4a7c15
	z := uint64(*d)
	z = (z ^ z>>30) * 0xbf58476d1ce4e5b9
	z = (z ^ z>>27) * 0x94d049bb133111eb
	return int((z ^ z>>31) % uint64(n))
}

// drawn is a bitmap of pixels that fall as they may; some rows are those above.
func (d *dice) drawn(w, h int) api.Bitmap {
	m, _ := bitmap.New(w, h)
	of := 2 + d.below(3)
	for y := range h {
		if y > 0 && d.below(3) == 0 {
			m.Blit(m, 0, y-1, w, 1, 0, y, api.OpReplace)
			continue
		}
		for x := range w {
			if d.below(of) == 0 {
				m.Set(x, y, 1)
			}
		}
	}
	return m.Plain()
}

func (d *dice) bitmap() api.Bitmap {
	wide := []int{1, 2, 3, 5, 9, 25, 63, 64, 65, 130}
	return d.drawn(wide[d.below(len(wide))], 1+d.below(5)*d.below(4))
}

// sheet is one that may be, of few pixels.
func (d *dice) sheet() api.Sheet {
	s := api.Sheet{W: 1 + d.below(12), H: 1 + d.below(12), Default: d.below(2)}
	if d.below(5) == 0 {
		s.W = []int{63, 64, 65, 128, 129, 300}[d.below(6)]
	}
	if d.below(3) > 0 {
		s.Stripe = 1 + d.below(14)
	}
	return s
}

// region is one that may be.
func (d *dice) region() api.Region {
	corners := []int{0, 1, 127, 128, 300, 1 << 14, 1<<20 - 1, 1 << 20}
	return api.Region{X: corners[d.below(8)], Y: corners[d.below(8)], Op: d.below(5), Template: d.below(4), Skip: d.below(2) == 0, B: d.bitmap()}
}

// place is about a page's corner, or as far as may be.
func (d *dice) place() int {
	if d.below(8) == 0 {
		far := farInts()
		return far[d.below(len(far))]
	}
	return d.below(20) - 5
}

func (d *dice) noise(n int) []byte {
	b := make([]byte, n)
	for i := range b {
		b[i] = byte(d.below(256))
		if d.below(3) == 0 {
			b[i] = []byte{0, 1, 2, 0x7f, 0x80, 0xff}[d.below(6)]
		}
	}
	return b
}

// farInts are far from all that is on a page; sums with them may wrap.
func farInts() []int {
	return []int{math.MinInt, math.MinInt + 1, -1 << 32, -1<<20 - 1, 1 << 20, 1<<20 + 1, 1 << 32, math.MaxInt - 1, math.MaxInt}
}

// wrongOps are no operations.
func wrongOps() []int {
	return []int{math.MinInt, -8, -1, 5, 6, 7, 8, 1 << 32, math.MaxInt}
}

// blank is a white bitmap.
func blank(w, h int) api.Bitmap {
	return api.Bitmap{W: w, H: h, Bits: make([]uint64, h*((w+63)/64))}
}

// black is a bitmap of one word a row, all black.
func black(w, h int) api.Bitmap {
	return api.Bitmap{W: w, H: h, Bits: slices.Repeat([]uint64{math.MaxUint64 << (64 - w)}, h)}
}

// wrongBitmaps may not be.
func wrongBitmaps() []api.Bitmap {
	l := []api.Bitmap{
		{},
		{Bits: []uint64{0}},
		{W: 1, H: 1},
		{W: 1, H: 1, Bits: []uint64{0, 0}},
		{W: 1, H: 1, Bits: []uint64{1}},
		{W: 65, H: 2, Bits: []uint64{0, 1, 0, 0}},
		{W: 65, H: 2, Bits: []uint64{0, 0, 0, 1}},
		{W: 65, H: 2, Bits: []uint64{0, 0, 0}},
		{W: 64, H: 1<<14 + 1, Bits: make([]uint64, 1<<14+1)},
	}
	for _, s := range wrongSizes() {
		l = append(l, api.Bitmap{W: s[0], H: s[1], Bits: []uint64{0}})
	}
	return l
}

// wrongSizes are no bitmap's.
func wrongSizes() [][2]int {
	var l [][2]int
	edges := []int{math.MinInt, -1 << 32, -1, 0, 1, 64, 1024, 1025, 1 << 20, 1<<20 + 1, 1 << 32, 1 << 62, math.MaxInt}
	for _, w := range edges {
		for _, h := range edges {
			if w < 1 || h < 1 || w > api.MaxArea/h {
				l = append(l, [2]int{w, h})
			}
		}
	}
	return l
}

func sameBitmap(a, b api.Bitmap) bool {
	return a.W == b.W && a.H == b.H && slices.Equal(a.Bits, b.Bits)
}

func sameRegion(a, b api.Region) bool {
	return a.X == b.X && a.Y == b.Y && a.Op == b.Op && a.Template == b.Template && a.Skip == b.Skip && sameBitmap(a.B, b.B)
}

// isNothing tells whether a bitmap is what stands beside an error.
func isNothing(b api.Bitmap) bool {
	return b.W == 0 && b.H == 0 && b.Bits == nil
}

// wantSheet asks for a sheet's bytes, and for the sheet of these.
func wantSheet(t *testing.T, s api.Sheet, want []byte) {
	t.Helper()
	if f, err := page.EncodeSheet(s); err != api.OK || !bytes.Equal(f, want) {
		t.Fatalf("EncodeSheet(%v): %x, error %d, want %x", s, f, err, want)
	}
	if got, err := page.DecodeSheet(want); err != api.OK || got != s {
		t.Fatalf("DecodeSheet(%x): %v, error %d, want %v", want, got, err, s)
	}
}

func wantNoSheet(t *testing.T, f []byte, want api.Errno) {
	t.Helper()
	if s, err := page.DecodeSheet(f); err != want || s != (api.Sheet{}) {
		t.Fatalf("DecodeSheet(%x): %v, error %d, want %d", f, s, err, want)
	}
}

// wantSheetRefused asks EncodeSheet and New, which refuse the same sheets.
func wantSheetRefused(t *testing.T, s api.Sheet) {
	t.Helper()
	if f, err := page.EncodeSheet(s); err != api.ErrPageForm || f != nil {
		t.Fatalf("EncodeSheet(%v): %x, error %d", s, f, err)
	}
	if p, err := page.New(s); err != api.ErrPageForm || p != nil {
		t.Fatalf("New(%v): error %d", s, err)
	}
}

func wantRegionBytes(t *testing.T, r api.Region, want []byte) {
	t.Helper()
	if f, err := page.EncodeRegion(r); err != api.OK || !bytes.Equal(f, want) {
		t.Fatalf("EncodeRegion(%.99v): %.50x, error %d, want %.50x", r, f, err, want)
	}
}

func wantRegionOf(t *testing.T, f []byte, want api.Region) {
	t.Helper()
	if r, err := page.DecodeRegion(f); err != api.OK || !sameRegion(r, want) {
		t.Fatalf("DecodeRegion(%.50x): %.99v, error %d, want %.99v", f, r, err, want)
	}
}

// wantRegion asks for a region's bytes, and for the region of these.
func wantRegion(t *testing.T, r api.Region) {
	t.Helper()
	f := regionBytes(r)
	wantRegionBytes(t, r, f)
	wantRegionOf(t, f, r)
}

func wantNoRegion(t *testing.T, f []byte, want api.Errno) {
	t.Helper()
	if r, err := page.DecodeRegion(f); err != want || !sameRegion(r, api.Region{}) || r.B.Bits != nil {
		t.Fatalf("DecodeRegion(%.50x): %.99v, error %d, want %d", f, r, err, want)
	}
}

func wantRegionRefused(t *testing.T, r api.Region) {
	t.Helper()
	if f, err := page.EncodeRegion(r); err != api.ErrPageForm || f != nil {
		t.Fatalf("EncodeRegion(%.99v): %.50x, error %d", r, f, err)
	}
}

func newPage(t *testing.T, s api.Sheet) *page.Page {
	t.Helper()
	p, err := page.New(s)
	if err != api.OK || p == nil {
		t.Fatalf("New(%v): error %d", s, err)
	}
	return p
}

func wantAdd(t *testing.T, p *page.Page, x, y, op int, b api.Bitmap, want api.Errno) {
	t.Helper()
	if err := p.Add(x, y, op, b); err != want {
		t.Fatalf("Add(%d, %d, %d, %d times %d) from row %d on: error %d, want %d", x, y, op, b.W, b.H, p.Next(), err, want)
	}
}

// wantStripe asks for the row from which the page goes on, too.
func wantStripe(t *testing.T, p *page.Page, last int, want api.Errno, next int) {
	t.Helper()
	if err := p.Stripe(last); err != want || p.Next() != next {
		t.Fatalf("Stripe(%d): error %d, from row %d on; want %d, %d", last, err, p.Next(), want, next)
	}
}

func wantEnd(t *testing.T, p *page.Page, want api.Bitmap) {
	t.Helper()
	b, err := p.End()
	if err != api.OK || !sameBitmap(b, want) || p.Next() != want.H {
		t.Fatalf("End: %.99v, error %d, row %d, want %.99v", b, err, p.Next(), want)
	}
}

func wantNoEnd(t *testing.T, p *page.Page) {
	t.Helper()
	next := p.Next()
	if b, err := p.End(); err != api.ErrPageOrder || !isNothing(b) || p.Next() != next {
		t.Fatalf("End: %.99v, error %d, row %d, want row %d", b, err, p.Next(), next)
	}
}
