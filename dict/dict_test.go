package dict_test

import (
	"encoding/binary"
	"math"
	"runtime"
	"slices"
	"testing"

	"burin/api"
	"burin/arith"
	"burin/dict"
)

// TestExample: P13.1, P13.2: the chapter's examples.
func TestExample(t *testing.T) {
	c, _ := arith.New(1)
	nothing, _ := c.Flush()
	f := append([]byte{0, 0}, nothing...)
	wantEncode(t, api.Dict{}, nil, f)
	wantDecode(t, f, nil, api.Dict{})
	wantRefused(t, plain(0, blank(2, 3), blank(1, 3)), nil, api.ErrDictForm)
}

// TestNothingNew: P13.1, P13.2: without new symbols the flags of the imported ones are all of it, with each template.
func TestNothingNew(t *testing.T) {
	imported := []api.Bitmap{blank(7, 7), blank(1, 1), blank(7, 7)}
	for template := range 4 {
		d := api.Dict{Template: template, Export: []bool{true, false, true}}
		f := coded(template, 0, run(0), run(1), run(1), run(1))
		wantEncode(t, d, imported, f)
		wantDecode(t, f, imported, d)
		empty := api.Dict{Template: template, New: []api.Bitmap{}, Export: []bool{}}
		wantEncode(t, empty, []api.Bitmap{}, coded(template, 0))
		wantDecode(t, coded(template, 0), []api.Bitmap{}, empty)
	}
}

// TestByHand: P13.1, P13.2: a dictionary, number by number: classes of several symbols and of one, equal sizes, a width that falls with the next class.
func TestByHand(t *testing.T) {
	dc := dice(1)
	a, b, c, d, e := dc.drawn(3, 2), dc.drawn(3, 2), dc.drawn(70, 2), dc.drawn(1, 7), dc.drawn(1, 8)
	imported := []api.Bitmap{dc.drawn(9, 9), dc.drawn(1, 1)}
	for template := range 4 {
		f := coded(template, 5,
			height(2), width(3), image(a), width(0), image(b), width(67), image(c), width(none),
			height(5), width(1), image(d), width(none),
			height(1), width(1), image(e), width(none),
			run(0), run(2), run(3), run(1), run(1))
		want := api.Dict{Template: template, New: []api.Bitmap{a, b, c, d, e}, Export: []bool{true, true, false, false, false, true, false}}
		wantEncode(t, want, imported, f)
		wantDecode(t, f, imported, want)
	}
}

// TestFlags: P13.1, P13.2: all flags of up to seven symbols, as runs, whoever brings the symbols.
func TestFlags(t *testing.T) {
	for n := 1; n <= 7; n++ {
		for bits := range 1 << n {
			l := blanks(n, 1, 1)
			d := api.Dict{Template: 3, New: l[n/2:], Export: make([]bool, n)}
			for i := range n {
				d.Export[i] = bits>>i&1 == 1
			}
			f := coded(3, uint64(n-n/2), itemsOf(d)...)
			wantEncode(t, d, l[:n/2], f)
			wantDecode(t, f, l[:n/2], d)
		}
	}
}

// TestBytes: P13.1, P13.2: drawn dictionaries, against items told by the chapter's words.
func TestBytes(t *testing.T) {
	dc := dice(2)
	for range 400 {
		d, imported := dc.dict()
		f := coded(d.Template, uint64(len(d.New)), itemsOf(d)...)
		wantEncode(t, d, imported, f)
		wantDecode(t, f, imported, d)
	}
}

// TestMostSymbols: P13.1, P13.2, P13.3: MaxSymbols symbols may be, imported and new together; one more is too many. The number of new ones takes one byte or two.
func TestMostSymbols(t *testing.T) {
	dots := blanks(api.MaxSymbols+1, 1, 1)
	for _, n := range []int{0, 1, 127, 128, 2048, 4095, 4096} {
		imported := dots[:api.MaxSymbols-n]
		d := plain(len(imported), dots[:n]...)
		d.Export[api.MaxSymbols-1] = true
		f := coded(2, uint64(n), itemsOf(d)...)
		wantEncode(t, d, imported, f)
		wantDecode(t, f, imported, d)
		wantExported(t, d, imported, dots[:1])
		over := dots[:api.MaxSymbols-n+1]
		d.Export = append(d.Export, true)
		wantRefused(t, d, over, api.ErrTooBig)
		wantNotDecoded(t, f, over, api.ErrTooBig)
	}
}

// TestMostPixels: P13.1, P13.2, P13.3: new symbols of MaxArea pixels together may be; one more is too many. Those of imported ones don't count.
func TestMostPixels(t *testing.T) {
	great := blanks(3, 1024, 1024)
	for _, l := range [][]api.Bitmap{
		{blank(1<<20, 1)}, {blank(1, 1<<20)}, {blank(1024, 1024)},
		{blank(1<<19, 1), blank(1<<19, 1)}, {blank(1, 1), blank(1<<20-1, 1)}, {blank(1, 1<<19-1), blank(1, 1<<19)},
		blanks(1024, 32, 32), blanks(4090, 16, 16), blanks(4093, 256, 1),
	} {
		d := plain(3, l...)
		f := coded(2, uint64(len(l)), itemsOf(d)...)
		wantEncode(t, d, great, f)
		wantDecode(t, f, great, d)
		wantExported(t, d, great, nil)
	}
	for _, l := range [][]api.Bitmap{
		{blank(1, 1), blank(1<<20, 1)}, {blank(1024, 1023), blank(1025, 1023)}, {blank(1, 1), blank(1024, 1024)}, {blank(1, 1), blank(1, 1<<20)},
		{blank(1<<19, 1), blank(1<<19+1, 1)}, blanks(1025, 32, 32), blanks(4096, 257, 1), great[:2], great,
		blanks(3000, 1024, 1024),
	} {
		wantRefused(t, plain(0, l...), nil, api.ErrTooBig)
	}
	wantEncode(t, plain(3), great, coded(2, 0, run(3)))
}

// TestWrongDicts: P13.1, P13.3: what may not be is refused.
func TestWrongDicts(t *testing.T) {
	dot := blank(1, 1)
	for _, template := range []int{-1, 4, 5, -4, 256, 257, 1 << 32, 1<<32 + 1, math.MinInt, math.MaxInt} {
		wantRefused(t, api.Dict{Template: template}, nil, api.ErrDictForm)
		wantRefused(t, api.Dict{Template: template, New: []api.Bitmap{dot}, Export: []bool{true}}, nil, api.ErrDictForm)
	}
	for _, l := range [][]api.Bitmap{
		{blank(1, 2), blank(1, 1)}, {blank(1, 2), blank(2, 1)}, {blank(2, 1), blank(1, 1)}, {blank(9, 3), blank(8, 3)},
		{blank(1, 1), blank(2, 1), blank(1, 1)}, {blank(1, 1), blank(1, 3), blank(5, 2)}, {blank(1, 2), blank(3, 2), blank(2, 2)},
	} {
		wantRefused(t, plain(0, l...), nil, api.ErrDictForm)
		wantEncode(t, plain(len(l)), l, coded(2, 0, run(int64(len(l))))) // imported ones need not be sorted
	}
	for n := range 3 {
		for k := range 3 {
			l := blanks(3, 1, 1)
			for flags := range 6 {
				if flags != n+k {
					wantRefused(t, api.Dict{New: l[:n], Export: make([]bool, flags)}, l[:k], api.ErrDictForm)
				}
			}
		}
	}
}

// TestWrongBitmaps: P13.1 to P13.3: a symbol that may not be is refused, wherever it stands.
func TestWrongBitmaps(t *testing.T) {
	good := blanks(2, 1, 1)
	f := coded(2, 0, run(3))
	for _, b := range wrongBitmaps() {
		for at := range 3 {
			l := slices.Insert(slices.Clone(good), at, b)
			wantRefused(t, plain(0, l...), nil, api.ErrDictForm)
			wantRefused(t, plain(3), l, api.ErrDictForm)
			wantRefused(t, plain(3, good...), l, api.ErrDictForm)
			wantNotDecoded(t, f, l, api.ErrDictForm)
			wantNotDecoded(t, nil, l, api.ErrDictForm)
		}
	}
}

// TestOrderOfErrors: P13.1 to P13.3: what may not be is told ahead of what is too much; imported ones ahead of the bytes.
func TestOrderOfErrors(t *testing.T) {
	many := blanks(api.MaxSymbols+1, 1, 1)
	wrong := append(slices.Clone(many), api.Bitmap{})
	wantRefused(t, plain(len(wrong)), wrong, api.ErrDictForm)
	wantRefused(t, plain(0, wrong...), nil, api.ErrDictForm)
	wantRefused(t, api.Dict{Export: make([]bool, len(many)+1)}, many, api.ErrDictForm)
	wantRefused(t, api.Dict{Template: 4, Export: make([]bool, len(many))}, many, api.ErrDictForm)
	wantRefused(t, plain(0, append(slices.Clone(many[1:]), blank(1024, 1024), blank(1, 1))...), nil, api.ErrDictForm)
	wantRefused(t, plain(0, blank(1024, 1024), blank(1024, 1024), blank(1, 1)), nil, api.ErrDictForm)
	wantNotDecoded(t, nil, wrong, api.ErrDictForm)
	for _, f := range [][]byte{nil, {4}, {2}, {2, 0x80, 0}, coded(2, 0)} {
		wantNotDecoded(t, f, many, api.ErrTooBig)
	}
}

// TestHead: P13.2: faults ahead of the decisions, the first from the left.
func TestHead(t *testing.T) {
	ones := slices.Repeat([]byte{0xff}, 9)
	for _, tail := range [][]byte{nil, {}, {0}, {1}, {0x80, 0}, {0x81, 0x20}} {
		for _, template := range []byte{4, 5, 127, 128, 255} {
			wantNotDecoded(t, append([]byte{template}, tail...), nil, api.ErrDictForm)
		}
	}
	wantNotDecoded(t, nil, nil, api.ErrDictForm)
	wantNotDecoded(t, []byte{}, nil, api.ErrDictForm)
	for template := range byte(4) {
		for _, number := range [][]byte{
			nil, {0x80}, {0xff, 0xff}, {0x80, 0}, {0x81, 0}, {0x81, 0xa0, 0}, {0x80, 0x80}, ones, append(ones, 2), append(ones, 0), append(ones, 0xff), append(ones, 0x81, 0),
		} {
			wantNotDecoded(t, append([]byte{template}, number...), nil, api.ErrDictForm)
			wantNotDecoded(t, append([]byte{template}, number...), blanks(4096, 1, 1), api.ErrDictForm)
		}
		for _, count := range []uint64{4097, 1 << 20, 1 << 31, 1 << 32, 1<<32 + 1, 1<<63 - 1, 1 << 63, 1<<64 - 4096, 1<<64 - 1} {
			for imported := range 3 {
				f := binary.AppendUvarint([]byte{template}, count)
				wantNotDecoded(t, f, blanks(imported, 1, 1), api.ErrTooBig)
				wantNotDecoded(t, append(f, 1, 2, 3), blanks(imported, 1, 1), api.ErrTooBig)
			}
		}
	}
	wantNotDecoded(t, []byte{2, 1}, blanks(4096, 1, 1), api.ErrTooBig)
	wantNotDecoded(t, []byte{2, 0xff, 0x1f}, blanks(2, 1, 1), api.ErrTooBig)
}

// fault is a row of items behind a template and a number of new symbols, and what is told of it.
type fault struct {
	count uint64
	l     []item
	err   api.Errno
}

func wantFaults(t *testing.T, imported []api.Bitmap, l []fault) {
	t.Helper()
	for i, x := range l {
		for template := range 4 {
			f := coded(template, x.count, x.l...)
			if _, err := told(f, len(imported)); err != x.err {
				t.Fatalf("%d: the model tells %d, want %d", i, err, x.err)
			}
			wantNotDecoded(t, f, imported, x.err)
		}
	}
}

// TestWrongHeights: P13.2: faults of heights, of the first and of further ones.
func TestWrongHeights(t *testing.T) {
	dot := image(blank(1, 1))
	for _, ahead := range [][]item{nil, {height(1), width(1), dot, width(none)}} {
		count := uint64(1 + len(ahead)/4)
		var l []fault
		for _, n := range []int64{none, 0, -1, -2, -1 << 20, -1 << 31, 1<<31 + 1, 1 << 32, -1<<31 - 1, -1 << 32} {
			l = append(l, fault{count, append(slices.Clone(ahead), height(n)), api.ErrDictForm})
		}
		for _, n := range []int64{1<<20 + 1, 1 << 21, 1 << 30, 1<<31 - 1, 1 << 31} {
			l = append(l, fault{count, append(slices.Clone(ahead), height(n)), api.ErrTooBig})
		}
		wantFaults(t, nil, l)
	}
	wantFaults(t, nil, []fault{
		{2, []item{height(1), width(1), dot, width(none), height(0), width(1), dot, width(none), run(2)}, api.ErrDictForm}, // all else may be
		{2, []item{height(2), width(1), image(blank(1, 2)), width(none), height(-1), width(1), dot, width(none), run(2)}, api.ErrDictForm},
		{2, []item{height(1), width(1), dot, width(none), height(1 << 20)}, api.ErrTooBig},
		{1, []item{height(1 << 20), width(none)}, api.ErrDictForm}, // the height may be
		{2, []item{height(1), width(1), dot, width(none), height(1<<20 - 1), width(0)}, api.ErrDictForm},
		{2, []item{height(1), width(1), dot, width(none), height(1<<20 - 1), width(1)}, api.ErrTooBig},
	})
}

// TestWrongWidths: P13.2: faults of widths, ahead of a class's first symbol, ahead of further ones, and behind the last.
func TestWrongWidths(t *testing.T) {
	dot := image(blank(1, 1))
	beyond := []int64{1<<31 + 1, 1 << 32, -1<<31 - 1, -1 << 32}
	first, further := []item{height(1)}, []item{height(1), width(1), dot}
	next := []item{height(1), width(1), dot, width(none), height(1)}
	last := []item{height(1), width(1), dot, width(0), dot}
	var l []fault
	for _, n := range append(beyond, none, 0, -1, -2, -1<<31) {
		l = append(l,
			fault{1, append(slices.Clone(first), width(n)), api.ErrDictForm},
			fault{3, append(slices.Clone(next), width(n)), api.ErrDictForm})
	}
	for _, n := range append(beyond, -1, -2, -1<<20, -1<<31) {
		l = append(l, fault{3, append(slices.Clone(further), width(n)), api.ErrDictForm})
	}
	for _, n := range append(beyond, 0, 1, -1, 1<<20, 1<<31) {
		l = append(l,
			fault{1, append(slices.Clone(further), width(n)), api.ErrDictForm},
			fault{2, append(slices.Clone(last), width(n)), api.ErrDictForm})
	}
	l = append(l,
		fault{2, []item{height(1), width(2), image(blank(2, 1)), width(-1), dot, width(none), run(2)}, api.ErrDictForm}, // all else may be
		fault{1, []item{height(1), width(1), dot, width(0), dot, width(none), run(1)}, api.ErrDictForm},
		fault{1, []item{height(1), width(none), width(1), dot, width(none), run(1)}, api.ErrDictForm})
	wantFaults(t, nil, l)
}

// TestWrongAreas: P13.2: a symbol, and all new ones together, that would have too many pixels.
func TestWrongAreas(t *testing.T) {
	dot, row := image(blank(1, 1)), image(blank(1<<19, 1))
	wantFaults(t, blanks(2, 3, 3), []fault{
		{1, []item{height(1), width(1<<20 + 1)}, api.ErrTooBig},
		{1, []item{height(1), width(1 << 31)}, api.ErrTooBig},
		{1, []item{height(1 << 20), width(2)}, api.ErrTooBig},
		{1, []item{height(1 << 20), width(1 << 31)}, api.ErrTooBig},
		{1, []item{height(1024), width(1025)}, api.ErrTooBig},
		{1, []item{height(3), width(349526)}, api.ErrTooBig},
		{2, []item{height(1), width(1), dot, width(1<<20 - 1)}, api.ErrTooBig}, // each of them alone may be
		{2, []item{height(1), width(1), dot, width(1 << 31)}, api.ErrTooBig},
		{2, []item{height(1), width(1), dot, width(none), height(1023), width(1024)}, api.ErrTooBig},
		{3, []item{height(1), width(1 << 19), row, width(0), row, width(0)}, api.ErrTooBig},
		{3, []item{height(1), width(1 << 19), row, width(0), row, width(none), height(1), width(1)}, api.ErrTooBig},
		{3, []item{height(1), width(1 << 19), row, width(0), row, width(-1)}, api.ErrDictForm},
	})
}

// TestWrongRuns: P13.2: faults of runs, of the first and of further ones.
func TestWrongRuns(t *testing.T) {
	symbols := []item{height(1), width(1), image(blank(1, 1)), width(none)}
	imported := blanks(4, 3, 3) // five flags with the new one
	beyond := []int64{1<<31 + 1, 1 << 32, -1<<31 - 1, -1 << 32, none, -1, -2, -1 << 31, 6, 7, 1 << 20, 1 << 31}
	var l []fault
	for _, n := range beyond {
		l = append(l, fault{1, append(slices.Clone(symbols), run(n)), api.ErrDictForm})
	}
	for _, ahead := range [][]item{{run(0)}, {run(1)}, {run(0), run(2)}, {run(1), run(1), run(1), run(1)}, {run(4)}} {
		left := int64(5)
		for _, x := range ahead {
			left -= x.n
		}
		for _, n := range append(beyond, 0, left+1) {
			l = append(l, fault{1, slices.Concat(symbols, ahead, []item{run(n)}), api.ErrDictForm})
		}
	}
	wantFaults(t, imported, l)
	for _, n := range append(beyond, 5) {
		f := coded(1, 0, run(n))
		wantNotDecoded(t, f, imported, api.ErrDictForm)
	}
}

// TestNotAsked: P13.2: nothing is asked behind the last flag: no further run, no byte.
func TestNotAsked(t *testing.T) {
	dc := dice(3)
	for range 100 {
		d, imported := dc.dict()
		f, _ := dict.Encode(d, imported)
		for _, tail := range [][]byte{{0xff}, {0xff, 0xff}, {0xff, 0x90}, append([]byte{0xff, 0xff}, dc.noise(40)...)} {
			wantDecode(t, append(slices.Clone(f), tail...), imported, d)
		}
		more := append(itemsOf(d), run(0), run(none), run(7), height(none), width(-1))
		wantDecode(t, coded(d.Template, uint64(len(d.New)), more...), imported, d)
	}
}

// TestMemory: P13.2 (DOC.md's limits): no memory is taken for a size that is above its cap.
func TestMemory(t *testing.T) {
	dot := image(blank(1, 1))
	for _, f := range [][]byte{
		binary.AppendUvarint([]byte{2}, 1<<40),
		coded(2, 1, height(1<<31)), coded(2, 1, height(1<<20), width(1<<31)),
		coded(2, 2, height(1), width(1), dot, width(1<<20-1)), coded(2, 4096, height(none)),
		coded(2, 1, height(1), width(1), dot, width(none), run(1<<31)),
	} {
		var ahead, behind runtime.MemStats
		runtime.ReadMemStats(&ahead)
		dict.Decode(f, nil)
		runtime.ReadMemStats(&behind)
		if taken := behind.TotalAlloc - ahead.TotalAlloc; taken > 1<<16 {
			t.Errorf("%x: %d bytes were taken", f, taken)
		}
	}
}
