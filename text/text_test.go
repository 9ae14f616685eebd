package text_test

import (
	"math"
	"runtime"
	"slices"
	"testing"

	"burin/api"
	"burin/arith"
	"burin/text"
)

// TestExample: P14.1 to P14.3: the chapter's examples.
func TestExample(t *testing.T) {
	c, _ := arith.New(1)
	nothing, _ := c.Flush()
	f := append([]byte{0, 0, 1, 1, 0, 0}, nothing...)
	wantEncode(t, api.Text{W: 1, H: 1}, nil, f)
	wantDecode(t, f, nil, api.Text{W: 1, H: 1})
	r := api.Text{W: 1, H: 1, Strip: 1, L: []api.Instance{{X: 5}, {X: 2, Y: 1}, {X: 9, Y: 2}}}
	wantSorted(t, r, []api.Instance{{X: 2, Y: 1}, {X: 5}, {X: 9, Y: 2}})
	f = coded(headOf(r, 3), strip(0), first(2), row(1), id(0, 0), step(3), row(0), id(0, 0), step(none), strip(1), first(7), row(0), id(0, 0), step(none))
	wantEncode(t, r, blanks(1, 3, 3), f)
}

// TestByHand: P14.1, P14.2: a region, number by number: strips below 0, strips of several instances and of one, a first ahead of the one of the strip ahead.
func TestByHand(t *testing.T) {
	dc := dice(1)
	symbols := []api.Bitmap{dc.drawn(3, 2), dc.drawn(70, 9), dc.drawn(1, 1), dc.drawn(8, 8), dc.drawn(3, 2)}
	b, c := dc.other(symbols[1]), dc.other(symbols[4])
	r := api.Text{X: 300, Y: 2, W: 40, H: 30, Op: api.OpXor, Refine: true, Default: 1, Strip: 2}
	r.L = []api.Instance{
		{X: 7, Y: -5, Symbol: 3}, {X: 9, Y: -8, Symbol: 2},
		{X: -4, Y: 0, Symbol: 1, Differ: true, B: b}, {X: -4, Y: 3, Symbol: 1}, {X: 100, Y: 1, Symbol: 4, Differ: true, B: c},
		{X: 4, Y: 47},
	}
	f := coded([]byte{0xac, 2, 2, 40, 30, 2 + 8 + 16 + 64, 6},
		strip(-2), first(7), row(3), id(3, 3), flag(0), step(2), row(0), id(3, 2), flag(0), step(none),
		strip(2), first(-11), row(0), id(3, 1), flag(1), image(b, symbols[1]), step(0), row(3), id(3, 1), flag(0), step(104), row(1), id(3, 4), flag(1), image(c, symbols[4]), step(none),
		strip(11), first(8), row(3), id(3, 0), flag(0), step(none))
	wantEncode(t, r, symbols, f)
	wantDecode(t, f, symbols, r)
	slices.Reverse(r.L)
	wantEncode(t, r, symbols, f)
	r = api.Text{W: 1, H: 1, Op: api.OpReplace, L: []api.Instance{{X: 3, Y: -1, Symbol: 1}, {X: 3, Y: 2}, {X: 5, Y: 2, Symbol: 4}}}
	f = coded([]byte{0, 0, 1, 1, 4, 3}, strip(-1), first(3), id(3, 1), step(none), strip(3), first(0), id(3, 0), step(2), id(3, 4), step(none))
	wantEncode(t, r, symbols, f)
	wantDecode(t, f, symbols, r)
}

// TestBytes: P14.1, P14.2: drawn regions, against items told by the chapter's words.
func TestBytes(t *testing.T) {
	dc := dice(2)
	for range 600 {
		r, symbols := dc.region()
		wantBoth(t, r, symbols)
	}
}

// TestForms: P14.1, P14.2: each operation, with and without refinement, each default, each strip, without instances and with some.
func TestForms(t *testing.T) {
	l := []api.Instance{{X: 1, Y: 1}, {X: 0, Y: 6}, {X: 1, Y: 0}, {X: -1, Y: -1}, {X: 0, Y: 7}, {X: 0, Y: 8}}
	for form := range 128 {
		r := api.Text{W: 3, H: 3, Op: form % 8, Refine: form/8%2 == 1, Default: form / 16 % 2, Strip: form / 32}
		if r.Op > api.OpReplace {
			wantNotDecoded(t, []byte{0, 0, 3, 3, byte(form), 0}, nil, api.ErrTextForm)
			continue
		}
		wantEncode(t, r, nil, coded([]byte{0, 0, 3, 3, byte(form), 0}))
		wantBoth(t, r, nil)
		r.L = l
		wantBoth(t, r, []api.Bitmap{spot(2, 2)})
	}
}

// TestFrames: P14.1, P14.2: places and sizes up to their edges.
func TestFrames(t *testing.T) {
	for _, n := range []int{0, 1, 127, 128, 1<<14 - 1, 1 << 14, 1<<20 - 1, 1 << 20} {
		wantBoth(t, api.Text{X: n, W: 1, H: 1}, nil)
		wantBoth(t, api.Text{Y: n, W: 1, H: 1}, nil)
		wantBoth(t, api.Text{X: n, Y: 1<<20 - n, W: 1, H: 1}, nil)
		if n > 0 {
			wantBoth(t, api.Text{W: n, H: 1}, nil)
			wantBoth(t, api.Text{W: 1, H: n}, nil)
		}
	}
	for _, s := range [][2]int{{1024, 1024}, {1 << 19, 2}, {2, 1 << 19}, {349525, 3}, {3, 349525}} {
		wantBoth(t, api.Text{X: 1 << 20, Y: 1 << 20, W: s[0], H: s[1]}, nil)
	}
}

// TestFarPlaces: P14.1, P14.2: instances at the edges of what may be, in each strip, the greatest steps there are.
func TestFarPlaces(t *testing.T) {
	for strip := range 4 {
		r := api.Text{W: 1, H: 1, Strip: strip}
		for _, x := range []int{1 << 20, 0, -1 << 20} {
			for _, y := range []int{1 << 20, 1<<20 - 1, 0, 1 - 1<<20, -1 << 20} {
				r.L = append(r.L, api.Instance{X: x, Y: y})
			}
		}
		wantBoth(t, r, blanks(1, 1, 1))
		slices.Reverse(r.L)
		wantBoth(t, r, blanks(1, 1, 1))
		for k := range r.L {
			one := r
			one.L = r.L[k : k+1]
			wantBoth(t, one, blanks(1, 1, 1))
		}
	}
}

// TestWidths: P14.1, P14.2: IDs have the least width that tells all symbols.
func TestWidths(t *testing.T) {
	for n, width := range map[int]int{1: 0, 2: 1, 3: 2, 4: 2, 5: 3, 8: 3, 9: 4, 256: 8, 257: 9, 2048: 11, 2049: 12, 4095: 12, 4096: 12} {
		symbols := blanks(n, 1, 1)
		r := api.Text{W: 1, H: 1, L: []api.Instance{{Symbol: n - 1}, {X: 1, Symbol: n / 2}, {X: 2}}}
		f := coded(headOf(r, 3), strip(0), first(0), id(width, int64(n-1)), step(1), id(width, int64(n/2)), step(1), id(width, 0), step(none))
		wantEncode(t, r, symbols, f)
		wantDecode(t, f, symbols, r)
		if 1<<width > n {
			wantNotDecoded(t, coded(headOf(r, 1), strip(0), first(0), id(width, int64(n)), step(none)), symbols, api.ErrTextForm)
			wantNotDecoded(t, coded(headOf(r, 1), strip(0), first(0), id(width, 1<<width-1), step(none)), symbols, api.ErrTextForm)
		}
	}
}

// TestMostSymbols: P14.1 to P14.3: MaxSymbols symbols may be; one more is too many, whether there are instances or not.
func TestMostSymbols(t *testing.T) {
	l := blanks(api.MaxSymbols+1, 1, 1)
	for _, r := range []api.Text{plain(), plain(api.Instance{Symbol: 4095}), plain(api.Instance{X: 3, Y: 3}, api.Instance{Symbol: 77})} {
		wantBoth(t, r, l[:api.MaxSymbols])
		wantDraw(t, r, l[:api.MaxSymbols], blank(9, 7))
		wantRefused(t, r, l, api.ErrTooBig)
		wantNotDecoded(t, bytesOf(r, l[:api.MaxSymbols]), l, api.ErrTooBig)
	}
}

// TestMostInstances: P14.1 to P14.3: MaxInstances instances may be; one more is too many. Their number takes one byte, two, or three.
func TestMostInstances(t *testing.T) {
	l := make([]api.Instance, api.MaxInstances+1)
	for k := range l {
		l[k] = api.Instance{X: k % 100, Y: k / 100, Symbol: k % 3}
	}
	symbols := blanks(3, 1, 1)
	for _, n := range []int{1, 127, 128, api.MaxInstances - 1, api.MaxInstances} {
		wantBoth(t, plain(l[:n]...), symbols)
		wantDraw(t, plain(l[:n]...), symbols, blank(9, 7))
	}
	wantRefused(t, plain(l...), symbols, api.ErrTooBig)
	wantRefused(t, plain(append(l, l...)...), symbols, api.ErrTooBig)
}

// TestMostPixels: P14.1 to P14.3: instances that differ may have MaxArea pixels together; one more is too many. Those of others don't count.
func TestMostPixels(t *testing.T) {
	symbols := []api.Bitmap{blank(1024, 1024), blank(1<<19, 1), blank(1<<19-1, 1), blank(1, 1), blank(1, 1<<20), blank(32, 32)}
	of := func(l ...int) api.Text {
		r := plain(api.Instance{X: 50}, api.Instance{Y: 50}, api.Instance{Y: 50, Symbol: 4})
		for k, s := range l {
			r.L = append(r.L, api.Instance{X: 10 + k, Y: 10, Symbol: s, Differ: true, B: spot(symbols[s].W, symbols[s].H)})
		}
		return r
	}
	for _, l := range [][]int{{0}, {4}, {1, 1}, {2, 1, 3}, {3, 3, 2, 2}, slices.Repeat([]int{5}, 1024)} {
		wantBoth(t, of(l...), symbols)
		for _, s := range []int{3, 0} {
			over := of(append(l, s)...)
			wantRefused(t, over, symbols, api.ErrTooBig)
			wantNotDecoded(t, bytesOf(over, symbols), symbols, api.ErrTooBig)
			over.L = slices.Insert(over.L[:len(over.L)-1], 0, over.L[len(over.L)-1])
			wantRefused(t, over, symbols, api.ErrTooBig)
		}
	}
	wantRefused(t, of(slices.Repeat([]int{0}, 60)...), symbols, api.ErrTooBig)
}

// TestWrongFrames: P14.1, P14.3: regions that may not be, but for their instances.
func TestWrongFrames(t *testing.T) {
	symbols := blanks(1, 1, 1)
	wrong := func(change func(r *api.Text)) {
		t.Helper()
		for _, r := range []api.Text{plain(), plain(api.Instance{})} {
			wantBoth(t, r, symbols)
			change(&r)
			wantRefused(t, r, symbols, api.ErrTextForm)
		}
	}
	for _, s := range wrongSizes() {
		wrong(func(r *api.Text) { r.W, r.H = s[0], s[1] })
	}
	for _, n := range []int{-1, 1<<20 + 1, 1 << 32, 1 << 40, -1 << 20, math.MinInt, math.MaxInt} {
		wrong(func(r *api.Text) { r.X = n })
		wrong(func(r *api.Text) { r.Y = n })
	}
	for _, n := range []int{-1, 5, 6, 7, 8, 16, 256, 1 << 32, math.MinInt, math.MaxInt} {
		wrong(func(r *api.Text) { r.Op = n })
	}
	for _, n := range []int{-1, 2, 3, 256, 257, 1 << 32, math.MinInt, math.MaxInt} {
		wrong(func(r *api.Text) { r.Default = n })
	}
	for _, n := range []int{-1, 4, 5, 8, 63, 64, 256, 1 << 32, math.MinInt, math.MaxInt} {
		wrong(func(r *api.Text) { r.Strip = n })
	}
}

// TestWrongInstances: P14.1, P14.3: instances that may not be, wherever they stand.
func TestWrongInstances(t *testing.T) {
	symbols := []api.Bitmap{spot(3, 2), blank(2, 3), spot(65, 1)}
	good := []api.Instance{{X: 4}, {Symbol: 1, Differ: true, B: spot(2, 3)}, {Symbol: 2}}
	wrong := []api.Instance{
		{Symbol: 3}, {Symbol: -1}, {Symbol: 1 << 32}, {Symbol: math.MinInt}, {Symbol: math.MaxInt}, {Symbol: 3, Differ: true, B: blank(3, 2)}, {Symbol: -1, Differ: true, B: blank(3, 2)},
		{Differ: true, B: spot(3, 2)}, {Symbol: 1, Differ: true, B: blank(2, 3)}, {Symbol: 2, Differ: true, B: spot(65, 1)}, // equal
		{Differ: true, B: blank(2, 3)}, {Differ: true, B: blank(3, 1)}, {Differ: true, B: blank(4, 2)}, {Differ: true, B: blank(3, 3)}, {Differ: true, B: blank(6, 1)}, {Symbol: 2, Differ: true, B: blank(64, 1)}, {Symbol: 2, Differ: true, B: blank(66, 1)}, // of another size
		{B: blank(3, 2)}, {B: spot(3, 2)}, {B: api.Bitmap{W: 3}}, {B: api.Bitmap{H: 2}}, {B: api.Bitmap{W: 3, H: 2}}, {B: api.Bitmap{Bits: []uint64{0}}}, {B: api.Bitmap{W: -1}}, {B: api.Bitmap{H: -1}}, // that don't differ
		{Differ: true, B: api.Bitmap{W: 3, H: 2, Bits: []uint64{0, 1}}}, {Differ: true, B: api.Bitmap{W: 3, H: 2, Bits: []uint64{0}}}, {Differ: true, B: api.Bitmap{W: 3, H: 2, Bits: []uint64{0, 0, 0}}}, {Differ: true, B: api.Bitmap{W: 3, H: 2}}, // words that are none of a bitmap of the size
	}
	for _, n := range []int{1<<20 + 1, -1<<20 - 1, 1 << 32, math.MinInt, math.MaxInt} {
		wrong = append(wrong, api.Instance{X: n}, api.Instance{Y: n}, api.Instance{X: n, Y: -n})
	}
	for _, b := range wrongBitmaps() {
		wrong = append(wrong, api.Instance{Differ: true, B: b})
	}
	wantBoth(t, plain(good...), symbols)
	for _, i := range wrong {
		wantRefused(t, plain(i), symbols, api.ErrTextForm)
		for at := range 4 {
			wantRefused(t, plain(slices.Insert(slices.Clone(good), at, i)...), symbols, api.ErrTextForm)
		}
	}
	bare := plain(good...)
	bare.Refine = false
	wantRefused(t, bare, symbols, api.ErrTextForm)
	bare.L[1] = api.Instance{B: api.Bitmap{Bits: []uint64{}}} // an empty list is none
	wantBoth(t, bare, symbols)
	wantRefused(t, plain(api.Instance{}), nil, api.ErrTextForm)
	wantRefused(t, plain(api.Instance{}), []api.Bitmap{}, api.ErrTextForm)
}

// TestWrongSymbols: P14.1 to P14.3: a symbol that may not be is refused, wherever it stands, though no instance uses it.
func TestWrongSymbols(t *testing.T) {
	good := blanks(2, 1, 1)
	for _, b := range wrongBitmaps() {
		for at := range 3 {
			l := slices.Insert(slices.Clone(good), at, b)
			for _, r := range []api.Text{plain(), plain(api.Instance{Symbol: at}), plain(api.Instance{Symbol: (at + 1) % 3})} {
				wantRefused(t, r, l, api.ErrTextForm)
				wantNotDecoded(t, coded(headOf(r, 0)), l, api.ErrTextForm)
			}
			wantNotDecoded(t, nil, l, api.ErrTextForm)
		}
	}
}

// TestOrderOfErrors: P14.1 to P14.3: what may not be is told ahead of what is too much; symbols ahead of the bytes.
func TestOrderOfErrors(t *testing.T) {
	many := blanks(api.MaxSymbols+1, 1, 1)
	great := []api.Bitmap{blank(1024, 1024)}
	wrong := append(slices.Clone(many), api.Bitmap{})
	wantRefused(t, plain(), wrong, api.ErrTextForm)
	wantRefused(t, api.Text{}, many, api.ErrTextForm)
	wantRefused(t, plain(api.Instance{Symbol: len(many)}), many, api.ErrTextForm)
	wantRefused(t, plain(append(make([]api.Instance, api.MaxInstances+1), api.Instance{Symbol: 1})...), great, api.ErrTextForm)
	i := api.Instance{Differ: true, B: spot(1024, 1024)}
	wantRefused(t, plain(i, i), great, api.ErrTooBig)
	wantRefused(t, plain(i, i, api.Instance{Differ: true, B: great[0]}), great, api.ErrTextForm)
	wantRefused(t, api.Text{W: 1, H: 1, L: []api.Instance{i, i}}, great, api.ErrTextForm)
	wantNotDecoded(t, nil, wrong, api.ErrTextForm)
	for _, f := range [][]byte{nil, {4}, {0x80, 0}, {0, 0, 0}, {0, 0, 1, 1, 5, 0}, coded(headOf(plain(), 0))} {
		wantNotDecoded(t, f, many, api.ErrTooBig)
	}
}

// TestHead: P14.2: faults ahead of the decisions, the first from the left: each head that can be made of these parts, and each beginning of it.
func TestHead(t *testing.T) {
	ones := slices.Repeat([]byte{0xff}, 9)
	most := append(slices.Clone(ones), 1) // 2^64 - 1
	corners := [][]byte{{0}, {0x80, 0x80, 0x40}, {0x81, 0x80, 0x40}, most, append(slices.Clone(ones), 2), {0x80, 0}, {0x81, 0}, nil}
	sizes := [][]byte{{0}, {1}, {2}, {0x80, 0x80, 0x40}, {0x80, 0x80, 0x20}, {0x81, 0x80, 0x40}, {0x80, 0x80, 0x80, 0x80, 0x10}, {0x80, 0x80, 0x80, 0x80, 0x80, 0x80, 0x80, 0x80, 0x80, 1}, most, {0x81, 0}}
	forms := [][]byte{{0}, {4}, {0x7c}, {5}, {7}, {0x80}, {0xff}, nil}
	counts := [][]byte{{0}, {1}, {0x80, 0x80, 1}, {0x81, 0x80, 1}, most, append(slices.Clone(ones), 2), {0x80, 0}, {0x80}, nil}
	met := map[api.Errno]int{}
	for _, x := range corners {
		for _, y := range corners {
			for _, w := range sizes {
				for _, h := range sizes {
					f := slices.Concat(x, y, w, h)
					met[wantAsTold(t, f, nil)]++
					if _, _, _, err := toldHead(append(slices.Clone(f), 0, 0), 0); err != api.OK {
						continue
					}
					for _, form := range forms {
						for _, count := range counts {
							for n := range 3 {
								met[wantAsTold(t, slices.Concat(f, form, count), blanks(n, 1, 1))]++
							}
						}
					}
				}
			}
		}
	}
	if met[api.OK] < 100 || met[api.ErrTextForm] < 100 || met[api.ErrTooBig] < 100 {
		t.Errorf("too few of a kind: %v", met)
	}
}

// TestHeadFaults: P14.2: faults ahead of the decisions, spelt out.
func TestHeadFaults(t *testing.T) {
	two := blanks(2, 1, 1)
	for i, x := range []struct {
		f       []byte
		symbols []api.Bitmap
		err     api.Errno
	}{
		{nil, nil, api.ErrTextForm}, {[]byte{}, nil, api.ErrTextForm}, {[]byte{0}, nil, api.ErrTextForm}, {[]byte{0, 0}, nil, api.ErrTextForm}, {[]byte{0, 0, 1}, nil, api.ErrTextForm}, {[]byte{0, 0, 1, 1}, nil, api.ErrTextForm}, {[]byte{0, 0, 1, 1, 0}, nil, api.ErrTextForm},
		{head(1<<20+1, 0, 1, 1, 0, 0), nil, api.ErrTextForm}, {head(0, 1<<20+1, 1, 1, 0, 0), nil, api.ErrTextForm}, {head(1<<63, 0, 1, 1, 0, 0), nil, api.ErrTextForm}, {head(0, 1<<64-1, 1, 1, 0, 0), nil, api.ErrTextForm},
		{head(0, 0, 0, 1, 0, 0), nil, api.ErrTextForm}, {head(0, 0, 1, 0, 0, 0), nil, api.ErrTextForm}, {head(0, 0, 1<<21, 0, 0, 0), nil, api.ErrTextForm}, {head(0, 0, 0, 1<<21, 0, 0), nil, api.ErrTextForm},
		{head(0, 0, 1<<21, 1, 0, 0), nil, api.ErrTooBig}, {head(0, 0, 1, 1<<20+1, 0, 0), nil, api.ErrTooBig}, {head(0, 0, 1024, 1025, 0, 0), nil, api.ErrTooBig}, {head(0, 0, 1<<32, 1<<32, 0, 0), nil, api.ErrTooBig}, {head(0, 0, 1<<63, 2, 0, 0), nil, api.ErrTooBig}, {head(0, 0, 1<<64-1, 1<<64-1, 0, 0), nil, api.ErrTooBig},
		{[]byte{0, 0, 0x81, 0x80, 0x40}, nil, api.ErrTextForm}, {[]byte{0, 0, 0x81, 0x80, 0x40, 0x80}, nil, api.ErrTextForm}, {[]byte{0, 0, 0x81, 0x80, 0x40, 1}, nil, api.ErrTooBig},
		{head(0, 0, 1<<21, 1, 5, 0), nil, api.ErrTooBig}, {head(0, 0, 1, 1, 5, 1<<20), two, api.ErrTextForm}, {head(0, 0, 1, 1, 128, 1<<20), two, api.ErrTextForm},
		{head(0, 0, 1, 1, 0, 1), nil, api.ErrTextForm}, {head(0, 0, 1, 1, 0, 1<<14+1), nil, api.ErrTextForm}, {head(0, 0, 1, 1, 0, 1<<64-1), nil, api.ErrTextForm},
		{head(0, 0, 1, 1, 0, 1<<14+1), two, api.ErrTooBig}, {head(0, 0, 1, 1, 0, 1<<32), two, api.ErrTooBig}, {head(0, 0, 1, 1, 0, 1<<32+1), two, api.ErrTooBig}, {head(0, 0, 1, 1, 0, 1<<63), two, api.ErrTooBig}, {head(0, 0, 1, 1, 0, 1<<64-1), two, api.ErrTooBig},
		{[]byte{0, 0, 1, 1, 0, 0x80, 0}, nil, api.ErrTextForm}, {[]byte{0, 0, 1, 1, 0, 0x81, 0}, nil, api.ErrTextForm}, {[]byte{0x80, 0, 0, 1, 1, 0, 0}, nil, api.ErrTextForm},
	} {
		if _, err := told(x.f, x.symbols); err != x.err {
			t.Fatalf("%d: the model tells %d, want %d", i, err, x.err)
		}
		wantNotDecoded(t, x.f, x.symbols, x.err)
	}
}

// beyond are numbers beyond MaxWhole, and none.
var beyond = []int64{none, 1<<31 + 1, 1 << 32, -1<<31 - 1, -1 << 32}

// wantFault asks for an error of items behind the head of a region of so many instances; the model tells it, too.
func wantFault(t *testing.T, r api.Text, count int, symbols []api.Bitmap, want api.Errno, l ...item) {
	t.Helper()
	f := coded(headOf(r, count), l...)
	if _, err := told(f, symbols); err != want {
		t.Fatalf("the model tells %d, want %d: %v", err, want, l)
	}
	wantNotDecoded(t, f, symbols, want)
}

// one is an instance behind its X, of a region without refinement that has one symbol.
func one(r api.Text, n int64) []item {
	if r.Strip == 0 {
		return []item{id(0, 0)}
	}
	return []item{row(n), id(0, 0)}
}

// TestWrongStrips: P14.2: faults of strips, of the first and of further ones.
func TestWrongStrips(t *testing.T) {
	symbols := blanks(1, 1, 1)
	for s := range 4 {
		r := api.Text{W: 1, H: 1, Strip: s}
		tail := append([]item{first(0)}, append(one(r, 0), step(none))...)
		ahead := append([]item{strip(-3)}, tail...)
		edge := int64(1 << 20 >> s)
		for _, n := range append(beyond, edge+1, -edge-1, 1<<30, -1<<30, 1<<31, -1<<31) {
			wantFault(t, r, 1, symbols, api.ErrTextForm, append([]item{strip(n)}, tail...)...)
		}
		for _, n := range append(beyond, 0, -1, -2, -1<<20, -1<<31, edge+4, 1<<30, 1<<31) {
			wantFault(t, r, 2, symbols, api.ErrTextForm, slices.Concat(ahead, []item{strip(n)}, tail)...)
		}
		for _, n := range []int64{0, 1, -1, edge, -edge} {
			r.L = []api.Instance{{Y: int(n) << s}}
			wantDecode(t, coded(headOf(r, 1), append([]item{strip(n)}, tail...)...), symbols, r)
		}
		for _, n := range []int64{1, 2, edge + 3} {
			r.L = []api.Instance{{Y: -3 << s}, {Y: int(n-3) << s}}
			wantDecode(t, coded(headOf(r, 2), slices.Concat(ahead, []item{strip(n)}, tail)...), symbols, r)
		}
	}
}

// TestWrongPlaces: P14.2: faults of firsts and steps, by what they are, or by the X that they make.
func TestWrongPlaces(t *testing.T) {
	symbols := blanks(1, 1, 1)
	for s := range 4 {
		r := api.Text{W: 1, H: 1, Strip: s}
		it, end := one(r, 0), []item{step(none)}
		next := slices.Concat([]item{strip(0), first(5)}, it, []item{step(3)}, it, end, []item{strip(1)})
		for _, n := range append(beyond, 1<<20+1, -1<<20-1, 1<<31, -1<<31) {
			wantFault(t, r, 1, symbols, api.ErrTextForm, slices.Concat([]item{strip(0), first(n)}, it, end)...)
		}
		for _, n := range append(beyond, 1<<20-4, -1<<20-6, 1<<31, -1<<31) {
			wantFault(t, r, 3, symbols, api.ErrTextForm, slices.Concat(next, []item{first(n)}, it, end)...)
		}
		for _, n := range []int64{1<<20 - 5, -1<<20 - 5, -5, -6, 0} {
			r.L = []api.Instance{{X: 5}, {X: 8}, {X: 5 + int(n), Y: 1 << s}}
			wantDecode(t, coded(headOf(r, 3), slices.Concat(next, []item{first(n)}, it, end)...), symbols, r)
		}
		for _, n := range append(beyond[1:], -1, -2, -5, -1<<31, 1<<20-4, 1<<20, 1<<31) {
			wantFault(t, r, 2, symbols, api.ErrTextForm, slices.Concat([]item{strip(0), first(5)}, it, []item{step(n)}, it, end)...)
		}
		for _, n := range append(beyond[1:], 0, 1, -1, 7, 1<<31) {
			wantFault(t, r, 1, symbols, api.ErrTextForm, slices.Concat([]item{strip(0), first(5)}, it, []item{step(n)}, it, end)...)
			wantFault(t, r, 3, symbols, api.ErrTextForm, slices.Concat(next, []item{first(0)}, it, []item{step(n)}, it, end)...)
		}
		r.L = []api.Instance{{X: 5}, {X: 1 << 20}}
		wantDecode(t, coded(headOf(r, 2), slices.Concat([]item{strip(0), first(5)}, it, []item{step(1<<20 - 5)}, it, end)...), symbols, r)
	}
}

// TestWrongRows: P14.2: faults of rows, by what they are, or by the Y that they make; a strip of one row has none.
func TestWrongRows(t *testing.T) {
	symbols := blanks(1, 1, 1)
	for s := 1; s < 4; s++ {
		r := api.Text{W: 1, H: 1, Strip: s}
		height, top := int64(1)<<s, int64(1<<20>>s)
		for _, n := range append(beyond, height, height+1, 8, 9, -1, -2, 1<<20, 1<<31, -1<<31) {
			wantFault(t, r, 1, symbols, api.ErrTextForm, strip(0), first(0), row(n), id(0, 0), step(none))
			wantFault(t, r, 2, symbols, api.ErrTextForm, strip(0), first(0), row(0), id(0, 0), step(0), row(n), id(0, 0), step(none))
		}
		for n := range height {
			r.L = []api.Instance{{Y: int(n)}}
			wantDecode(t, coded(headOf(r, 1), strip(0), first(0), row(n), id(0, 0), step(none)), symbols, r)
			r.L = []api.Instance{{Y: -1<<20 + int(n)}}
			wantDecode(t, coded(headOf(r, 1), strip(-top), first(0), row(n), id(0, 0), step(none)), symbols, r)
			wantFault(t, r, 1, symbols, api.ErrTextForm, strip(-top-1), first(0), row(n), id(0, 0), step(none))
			if n > 0 {
				wantFault(t, r, 1, symbols, api.ErrTextForm, strip(top), first(0), row(n), id(0, 0), step(none))
			}
		}
	}
}

// TestWrongSymbolsRead: P14.2: IDs that are none of the symbols.
func TestWrongSymbolsRead(t *testing.T) {
	for n := 1; n <= 40; n++ {
		width := widthOf(n)
		for k := range 1 << width {
			r := api.Text{W: 1, H: 1, L: []api.Instance{{Symbol: k}}}
			l := []item{strip(0), first(0), id(width, int64(k)), step(none)}
			if k < n {
				wantDecode(t, coded(headOf(r, 1), l...), blanks(n, 1, 1), r)
			} else {
				wantFault(t, r, 1, blanks(n, 1, 1), api.ErrTextForm, l...)
			}
		}
	}
}

// TestWrongLooks: P14.2: bitmaps that are equal to their symbol; room is asked for ahead of a bitmap, and behind all that stands ahead of it.
func TestWrongLooks(t *testing.T) {
	dot, great, half, much := spot(2, 1), blank(1024, 1024), blank(1<<19, 1), blank(1<<19+1, 1)
	symbols := []api.Bitmap{dot, great, half, much}
	r := api.Text{W: 1, H: 1, Refine: true}
	equal := func(k int64) []item { return []item{id(2, k), flag(1), image(symbols[k], symbols[k])} }
	other := func(k int64) []item {
		b := symbols[k]
		b.Bits = slices.Clone(b.Bits)
		b.Bits[0] ^= 1 << 63
		return []item{id(2, k), flag(1), image(b, symbols[k])}
	}
	ahead := []item{strip(0), first(0)}
	for k := range int64(4) {
		wantFault(t, r, 1, symbols, api.ErrTextForm, slices.Concat(ahead, equal(k), []item{step(none)})...)
		wantFault(t, r, 2, symbols, api.ErrTextForm, slices.Concat(ahead, []item{id(2, 0), flag(0), step(0)}, equal(k), []item{step(none)})...)
	}
	for _, x := range []struct {
		a, b int64
		err  api.Errno
	}{{1, 0, api.ErrTooBig}, {0, 1, api.ErrTooBig}, {1, 1, api.ErrTooBig}, {2, 3, api.ErrTooBig}, {3, 2, api.ErrTooBig}, {2, 2, api.OK}, {0, 3, api.OK}} {
		behind := []item{id(2, x.b), flag(1)} // the bitmap itself is not asked for
		if x.err == api.OK {
			behind = equal(x.b)
			x.err = api.ErrTextForm
		}
		wantFault(t, r, 2, symbols, x.err, slices.Concat(ahead, other(x.a), []item{step(0)}, behind)...)
	}
	over := []item{id(2, 0), flag(1)}
	for _, l := range [][]item{{step(-1)}, {step(1<<20 + 1)}, {step(none), strip(0), first(0)}, {step(none), strip(1<<20 + 1), first(0)}, {step(none), strip(1), first(-1<<20 - 1)}, {step(none), strip(1), first(none)}} {
		wantFault(t, r, 2, symbols, api.ErrTextForm, slices.Concat(ahead, other(1), l, over)...)
	}
	wantFault(t, r, 2, symbols, api.ErrTooBig, slices.Concat(ahead, other(1), []item{step(1 << 20)}, over)...)
	wantFault(t, r, 2, symbols, api.ErrTooBig, slices.Concat(ahead, other(1), []item{step(none), strip(1 << 20), first(-1 << 20)}, over)...)
	r.Strip = 3
	wantFault(t, r, 2, symbols, api.ErrTextForm, slices.Concat(ahead, []item{row(7)}, other(1), []item{step(0), row(8)}, over)...)
	wantFault(t, r, 2, symbols, api.ErrTooBig, slices.Concat(ahead, []item{row(7)}, other(1), []item{step(0), row(7)}, over)...)
	wantFault(t, r, 2, symbols[:3], api.ErrTextForm, slices.Concat(ahead, []item{row(7)}, other(1), []item{step(0), row(7), id(2, 3), flag(1)})...)
}

// TestAsTheyCome: P14.2: instances of one X whose rows fall are no fault: they stay as they come.
func TestAsTheyCome(t *testing.T) {
	r := api.Text{W: 1, H: 1, Strip: 2, L: []api.Instance{{X: 3, Y: 3}, {X: 3, Y: 0}, {X: 3, Y: 2}, {X: 4, Y: 1}}}
	f := coded(headOf(r, 4), strip(0), first(3), row(3), id(0, 0), step(0), row(0), id(0, 0), step(0), row(2), id(0, 0), step(1), row(1), id(0, 0), step(none))
	wantDecode(t, f, blanks(1, 1, 1), r)
}

// TestNotAsked: P14.2: nothing is asked behind the last strip: no further strip, no byte.
func TestNotAsked(t *testing.T) {
	dc := dice(3)
	for range 150 {
		r, symbols := dc.region()
		f, l := bytesOf(r, symbols), itemsOf(r, symbols)
		head := headOf(r, len(r.L))
		r.L = sortedOf(r)
		for _, tail := range [][]byte{{0xff}, {0xff, 0xff}, {0xff, 0x90}, append([]byte{0xff, 0xff}, dc.noise(40)...)} {
			wantDecode(t, append(slices.Clone(f), tail...), symbols, r)
		}
		wantDecode(t, coded(head, append(l, strip(none), first(none), step(-1), row(99), flag(1))...), symbols, r)
	}
}

// TestMemory: P14.2 (DOC.md's limits): no memory is taken for a size that is above its cap, nor for instances that have not come.
func TestMemory(t *testing.T) {
	symbols := []api.Bitmap{blank(1, 1<<20), blank(1, 1)}
	r := api.Text{W: 1 << 20, H: 1, Refine: true}
	ahead := []item{strip(0), first(0), id(1, 1)}
	for _, f := range [][]byte{
		head(0, 0, 1<<40, 1<<40, 0, 0), head(0, 0, 1, 1, 0, 1<<40), head(0, 0, 1<<20, 1, 0, 0),
		coded(headOf(r, 1<<14), strip(none)), coded(headOf(r, 1), strip(0), first(1<<31)), coded(headOf(r, 1<<14), append(ahead, flag(0), step(-1))...),
		coded(headOf(r, 2), append(ahead, flag(1), image(spot(1, 1), symbols[1]), step(0), id(1, 0), flag(1))...),
	} {
		var before, behind runtime.MemStats
		runtime.ReadMemStats(&before)
		text.Decode(f, symbols)
		runtime.ReadMemStats(&behind)
		if taken := behind.TotalAlloc - before.TotalAlloc; taken > 1<<17 {
			t.Errorf("%x: %d bytes were taken", f, taken)
		}
	}
}
