package file_test

import (
	"math"
	"os"
	"os/exec"
	"runtime"
	"runtime/metrics"
	"slices"
	"testing"

	"burin/api"
	"burin/dict"
	"burin/file"
	"burin/page"
	"burin/text"
)

// wantContent asks for an error of what is in the data, in both organisations; Segments tells none.
func wantContent(t *testing.T, l []api.Segment, want api.Errno) {
	t.Helper()
	for _, random := range []bool{false, true} {
		wantFault(t, laid(uint64(countOf(l, api.SegPage)), l, random), want, api.OK)
	}
}

// within is a page of a sheet with segments between.
func within(sheet []byte, l ...api.Segment) []api.Segment {
	return row(slices.Concat([]api.Segment{seg(api.SegPage, 1, sheet)}, l, []api.Segment{endPage, endFile})...)
}

// TestSheets: P17.4: what DecodeSheet says of a page's data.
func TestSheets(t *testing.T) {
	for _, c := range []struct {
		data []byte
		want api.Errno
	}{
		{[]byte{1, 1, 0, 0}, api.OK},
		{sheetOf(1<<10, 1<<10, 0), api.OK},
		{nil, api.ErrPageForm},
		{[]byte{0, 1, 0, 0}, api.ErrPageForm},
		{[]byte{1, 0, 0, 0}, api.ErrPageForm},
		{[]byte{1, 1, 2, 0}, api.ErrPageForm},
		{[]byte{1, 1, 0}, api.ErrPageForm},
		{[]byte{1, 1, 0, 0, 0}, api.ErrPageForm},
		{[]byte{1, 1, 0, 0x80, 0}, api.ErrPageForm},
		{append(vars(1<<20, 2), 0, 0), api.ErrTooBig},
		{vars(1<<20+1, 1), api.ErrTooBig},
		{vars(math.MaxUint64, math.MaxUint64), api.ErrTooBig},
		{append(vars(1<<20, 1), 9), api.ErrPageForm},
	} {
		wantContent(t, within(c.data), c.want)
	}
}

// TestStripeData: P17.4: a stripe's last row, and what page.Stripe says of it.
func TestStripeData(t *testing.T) {
	for _, c := range []struct {
		data []byte
		want api.Errno
	}{
		{[]byte{4}, api.OK},
		{[]byte{3}, api.ErrPageOrder},
		{[]byte{5}, api.ErrPageOrder},
		{[]byte{0}, api.ErrPageOrder},
		{vars(1 << 20), api.ErrPageOrder},
		{vars(1<<20 + 1), api.ErrPageForm},
		{vars(1<<32 + 4), api.ErrPageForm},
		{vars(math.MaxUint64), api.ErrPageForm},
		{nil, api.ErrPageForm},
		{[]byte{0x84}, api.ErrPageForm},
		{[]byte{0x84, 0}, api.ErrPageForm},
		{[]byte{4, 0}, api.ErrPageForm},
		{[]byte{4, 4}, api.ErrPageForm},
		{slices.Repeat([]byte{0xff}, 12), api.ErrPageForm},
	} {
		wantContent(t, within(sheetOf(2, 8, 5), seg(api.SegStripe, 1, c.data), seg(api.SegStripe, 1, []byte{7})), c.want)
		if c.want == api.ErrPageForm {
			wantContent(t, within(sheetOf(2, 8, 0), seg(api.SegStripe, 1, c.data)), c.want)
		}
	}
	wantContent(t, within(sheetOf(2, 8, 0), seg(api.SegStripe, 1, []byte{7})), api.ErrPageOrder)
	for n := range 8 {
		var l []api.Segment
		for k := range n {
			l = append(l, seg(api.SegStripe, 1, []byte{byte(min(2*k+1, 8))}))
		}
		want := api.ErrPageOrder // all rows of nine: five stripes
		if n == 5 {
			want = api.OK
		}
		wantContent(t, within(sheetOf(3, 9, 2), l...), want)
	}
}

// TestRegions: P17.4: what DecodeRegion says, ahead of what page.Add says.
func TestRegions(t *testing.T) {
	b := blank(2, 2)
	wide, _ := page.EncodeRegion(api.Region{X: 1 << 20, Y: 1 << 20, Op: api.OpReplace, Template: 1, Skip: true, B: b})
	wantContent(t, within(sheetOf(4, 6, 0), seg(api.SegGeneric, 1, wide)), api.OK)
	for _, c := range []struct {
		data []byte
		want api.Errno
	}{
		{regionOf(3, b), api.OK},
		{regionOf(4, b), api.OK},
		{regionOf(2, b), api.ErrPageOrder},
		{regionOf(5, b), api.ErrPageOrder},
		{regionOf(3, blank(1, 4)), api.ErrPageOrder},
		{regionOf(3, blank(9, 3)), api.OK},
		{nil, api.ErrPageForm},
		{[]byte{0, 2, 1}, api.ErrPageForm},
		{[]byte{0, 2, 0, 1, 0}, api.ErrPageForm},
		{[]byte{0, 2, 1, 1, 64}, api.ErrPageForm},
		{[]byte{0, 2, 1, 1, 40}, api.ErrPageForm},
		{[]byte{0, 2, 1, 1, 0}, api.ErrPageOrder},
		{[]byte{0, 3, 1, 1, 0}, api.OK},
		{append([]byte{0, 2}, vars(1<<11, 1<<10)...), api.ErrTooBig},
		{append(vars(1<<20+1, 3, 1, 1), 0), api.ErrPageForm},
	} {
		l := []api.Segment{seg(api.SegStripe, 1, []byte{2}), seg(api.SegGeneric, 1, c.data), seg(api.SegStripe, 1, []byte{5})}
		wantContent(t, within(sheetOf(4, 6, 3), l...), c.want)
	}
	last := []api.Segment{seg(api.SegStripe, 1, []byte{1}), seg(api.SegGeneric, 1, regionOf(1, b))}
	wantContent(t, within(sheetOf(4, 2, 2), last...), api.ErrPageOrder)
}

// TestTexts: P17.4: what text.Decode says of the symbols that come by the references, ahead of what page.Add says.
func TestTexts(t *testing.T) {
	a, b := raster("##"), raster("#.", ".#")
	one, two := stays(seg(api.SegDict, 0, dictOf(nil, a))), stays(seg(api.SegDict, 1, dictOf(nil, b)))
	in := func(data []byte, refs ...int) []api.Segment {
		return row(one, seg(api.SegPage, 1, sheetOf(9, 6, 3)), two, seg(api.SegStripe, 1, []byte{2}), seg(api.SegText, 1, data, refs...), seg(api.SegStripe, 1, []byte{5}), endPage, endFile)
	}
	wantContent(t, in(textOf(3, 2, a, b), 0, 2), api.OK)
	wantContent(t, in(textOf(3, 2, a), 0), api.OK)
	wantContent(t, in(textOf(3, 3), 0, 2), api.OK)
	wantContent(t, in(textOf(3, 3)), api.OK)
	wantContent(t, in(textOf(2, 1, a, b), 0, 2), api.ErrPageOrder)
	wantContent(t, in(textOf(5, 2, a, b), 0, 2), api.ErrPageOrder)
	wantContent(t, in(textOf(3, 2, a)), api.ErrTextForm)    // instances, and no symbols
	wantContent(t, in(textOf(2, 1, a, b)), api.ErrTextForm) // ahead of its place
	wantContent(t, in(nil, 0), api.ErrTextForm)
	wantContent(t, in([]byte{0, 3, 9, 1, 0x80, 0}, 0), api.ErrTextForm)
	wantContent(t, in([]byte{0, 3, 9, 1, 5, 0}, 0), api.ErrTextForm)
	wantContent(t, in(append([]byte{0, 3}, vars(1<<20, 2)...), 0), api.ErrTooBig)
	wantContent(t, in(append([]byte{0, 3, 9, 1, 0}, vars(api.MaxInstances+1)...), 0), api.ErrTooBig)
	wantContent(t, in(append([]byte{0, 3, 9, 1, 0}, vars(api.MaxInstances+1)...)), api.ErrTextForm)
}

// TestInOrder: P17.4: symbols are in the order of the references, and in a dictionary's own; what it doesn't export is not among them.
func TestInOrder(t *testing.T) {
	a, b, c := raster("#.", ".#", "#."), raster(".#", "##", ".#"), raster("##", "..", "##")
	first := dictBytes(api.Dict{New: []api.Bitmap{a, c, b}, Export: []bool{true, false, true}}, nil)
	second := dictBytes(api.Dict{New: []api.Bitmap{c}, Export: []bool{false, true, true}}, []api.Bitmap{a, b})
	want := []api.Bitmap{a, b, b, c}
	r := api.Text{W: 8, H: 3}
	for i := range want {
		r.L = append(r.L, api.Instance{X: 2 * i, Symbol: i})
	}
	data, _ := text.Encode(r, want)
	l := row(stays(seg(api.SegDict, 0, first)), stays(keeps(seg(api.SegDict, 0, second, 0), true)), seg(api.SegPage, 1, sheetOf(8, 3, 0)), seg(api.SegText, 1, data, 0, 1), endPage, endFile)
	for _, random := range []bool{false, true} {
		f, _ := file.Write(l, random)
		pages, _, err := file.Read(f)
		if err != api.OK || len(pages) != 1 || !slices.Equal(pages[0].Bits, raster("#..#.###", ".#####..", "#..#.###").Bits) {
			t.Fatalf("%v, error %d", pages, err)
		}
	}
}

// TestDictionaries: P17.4: what dict.Decode says of the symbols that come by the references; of one that doesn't stay, too.
func TestDictionaries(t *testing.T) {
	a := raster("##")
	in := func(stay bool, data []byte, refs ...int) []api.Segment {
		s := seg(api.SegDict, 0, data, refs...)
		s.Stay = stay
		return row(stays(seg(api.SegDict, 0, dictOf(nil, a))), s, endFile)
	}
	for _, stay := range []bool{false, true} {
		wantContent(t, in(stay, dictOf([]api.Bitmap{a}, a), 0), api.OK)
		wantContent(t, in(stay, dictOf(nil, a)), api.OK)
		for _, data := range [][]byte{nil, {4}, {0}, {0, 0x80}, {0, 0x80, 0}} {
			wantContent(t, in(stay, data, 0), api.ErrDictForm)
			wantContent(t, in(stay, data), api.ErrDictForm)
		}
		wantContent(t, in(stay, append([]byte{0}, vars(api.MaxSymbols+1)...)), api.ErrTooBig)
		wantContent(t, in(stay, append([]byte{0}, vars(api.MaxSymbols)...), 0), api.ErrTooBig)
	}
}

// TestTooManySymbols: P17.4, P17.6: dictionaries export MaxSymbols together, or one more.
func TestTooManySymbols(t *testing.T) {
	all := dots(api.MaxSymbols + 1)
	for _, n := range []int{1, 2000, api.MaxSymbols - 1, api.MaxSymbols} {
		for more := range 2 {
			want := []api.Errno{api.OK, api.ErrTooBig}[more]
			one, two := stays(seg(api.SegDict, 0, dictOf(nil, all[:n]...))), stays(seg(api.SegDict, 0, dictOf(nil, all[n:api.MaxSymbols+more]...)))
			all := all[:api.MaxSymbols+more]
			both := seg(api.SegDict, 0, dictOf(all[:api.MaxSymbols]), 0, 1)
			wantContent(t, row(one, two, both, endFile), want)
			symbols := seg(api.SegText, 1, textOf(0, 1, all[:api.MaxSymbols]...), 0, 1)
			wantContent(t, row(one, two, seg(api.SegPage, 1, sheetOf(9, 9, 0)), symbols, endPage, endFile), want)
			both.Data, symbols.Data = nil, nil // too many are told ahead of what is in the data
			if more == 1 {
				wantContent(t, row(one, two, both, endFile), want)
				wantContent(t, row(one, two, seg(api.SegPage, 1, sheetOf(9, 9, 0)), symbols, endPage, endFile), want)
			}
		}
	}
}

// TestSamePages: P17.4: a dictionary that a page had is still held behind it, if no reference lets it go.
func TestSamePages(t *testing.T) {
	a := raster("#.#")
	l := row(seg(api.SegPage, 1, sheetOf(3, 1, 0)), stays(seg(api.SegDict, 1, dictOf(nil, a))), keeps(seg(api.SegText, 1, textOf(0, 1, a), 1), true), seg(api.SegEndPage, 1, nil),
		seg(api.SegPage, 2, sheetOf(3, 1, 0)), keeps(seg(api.SegText, 2, textOf(0, 1, a), 1), false), seg(api.SegEndPage, 2, nil), endFile)
	wantContent(t, l, api.OK)
	l[2].Keep[0] = false
	for _, random := range []bool{false, true} {
		wantFault(t, laid(2, l, random), api.ErrNoSegment, api.ErrNoSegment)
	}
}

// taken tells how many bytes of memory Read takes, in all, for a file; it asks for its error.
func taken(t *testing.T, f []byte, want api.Errno) uint64 {
	t.Helper()
	var before, behind runtime.MemStats
	runtime.ReadMemStats(&before)
	_, _, err := file.Read(f)
	runtime.ReadMemStats(&behind)
	if err != want {
		t.Fatalf("Read(%.200x): error %d, want %d", f, err, want)
	}
	return behind.TotalAlloc - before.TotalAlloc
}

// TestHandedOnOften: P17.7 (R3): a symbol that dictionaries hand on twice as often each time, up to MaxSymbols times, stands in memory but once; of one more doubling it is too many.
func TestHandedOnOften(t *testing.T) {
	b := blank(1, 1<<14) // a word a row
	l := []api.Segment{stays(seg(api.SegDict, 0, dictOf(nil, b)))}
	var refs []int
	var keep []bool
	count := 1
	for n := range 13 {
		refs, keep = append(refs, n), append(keep, true)
		symbols := slices.Repeat([]api.Bitmap{b}, count)
		s := stays(keeps(seg(api.SegDict, 0, dictOf(symbols), slices.Clone(refs)...), slices.Clone(keep)...))
		if count > api.MaxSymbols {
			s.Data = nil
		}
		last := row(append(slices.Clone(l), s, endFile)...)
		want := api.OK
		if count > api.MaxSymbols {
			want = api.ErrTooBig
		}
		if most := taken(t, laid(0, last, false), want); most > 1<<25 {
			t.Errorf("%d symbols: %d bytes were taken", count, most)
		}
		drawn := textOf(0, 1, symbols[:min(count, api.MaxSymbols)]...)
		text := keeps(seg(api.SegText, 1, drawn, slices.Clone(refs)...), slices.Clone(keep)...)
		last = row(append(slices.Clone(l), seg(api.SegPage, 1, sheetOf(5, 5, 0)), text, endPage, endFile)...)
		if most := taken(t, laid(1, last, false), want); most > 1<<25 {
			t.Errorf("text of %d symbols: %d bytes were taken", count, most)
		}
		l, count = append(l, s), 2*count
	}
}

// TestNothingTakenAhead: P17.7 (R3): no memory is taken for what is not there, nor for what is held, if a fault comes last.
func TestNothingTakenAhead(t *testing.T) {
	f := append(begun(0, 0), head(seg(api.SegDict, 0, nil), api.MaxBytes)...)
	if most := taken(t, f, api.ErrEnd); most > 1<<14 {
		t.Errorf("lacking data: %d bytes were taken", most)
	}
	var l []api.Segment
	s := stays(seg(api.SegDict, 0, dictBytes(api.Dict{Template: 3}, nil)))
	for range 10000 {
		l = append(l, s)
	}
	l = row(append(l, endFile)...)
	if most := taken(t, append(laid(0, l, false), 0), api.ErrMore); most > 1<<28 {
		t.Errorf("many that are held: %d bytes were taken", most)
	}
}

// TestCapWhileGrowing: P17.7 (R3), DOC.md's limits: symbols are counted as they come: no memory is taken for those beyond the cap.
func TestCapWhileGrowing(t *testing.T) {
	all := dots(api.MaxSymbols)
	l := []api.Segment{stays(seg(api.SegDict, 0, dictOf(nil, all...)))}
	again := stays(keeps(seg(api.SegDict, 0, dictOf(all), 0), true))
	last := seg(api.SegDict, 0, nil)
	for n := range 300 {
		l = append(l, again)
		last.Refs, last.Keep = append(last.Refs, n), append(last.Keep, true)
	}
	without := taken(t, laid(0, row(append(slices.Clone(l), endFile)...), false), api.OK)
	with := taken(t, laid(0, row(append(l, last, endFile)...), false), api.ErrTooBig)
	if with > without+1<<24 {
		t.Errorf("%d bytes were taken for too many symbols", with-without)
	}
}

// apart tells, in the environment, a test that it runs in a process of its own.
const apart = "BURIN_TEST_APART"

// runApart runs a test in a process of its own, in which all else stands still while the runtime collects: what it finds to be in use then doesn't hang on how busy the machine is.
func runApart(t *testing.T) {
	t.Helper()
	self, err := os.Executable()
	if err != nil {
		t.Fatal(err)
	}
	c := exec.Command(self, "-test.run=^"+t.Name()+"$", "-test.timeout=10m")
	c.Env = append(os.Environ(), apart+"=1", "GODEBUG=gcstoptheworld=2", "GOGC=100", "GOMEMLIMIT=off")
	if told, err := c.CombinedOutput(); err != nil {
		t.Errorf("%v: %s", err, told)
	}
}

// inUse tells how much memory was in use when the runtime collected last, and how often it has collected.
func inUse() (bytes, cycles uint64) {
	told := []metrics.Sample{{Name: "/gc/heap/live:bytes"}, {Name: "/gc/cycles/total:gc-cycles"}}
	metrics.Read(told)
	return told[0].Value.Uint64(), told[1].Value.Uint64()
}

// TestLetGo: P17.6, P17.7 (T6): what a dictionary that is let go has handed on is kept no more.
func TestLetGo(t *testing.T) {
	if os.Getenv(apart) == "" {
		runApart(t)
		return
	}
	b := blank(1, 1<<16) // a word a row
	l := []api.Segment{stays(seg(api.SegDict, 0, dictOf(nil, b)))}
	next := dictBytes(api.Dict{Template: 3, New: []api.Bitmap{b}, Export: []bool{false, true}}, []api.Bitmap{b})
	for n := range 100 {
		l = append(l, stays(seg(api.SegDict, 0, next, n)))
	}
	f := laid(0, row(append(l, endFile)...), false)
	_, before := inUse()
	taken(t, f, api.OK)
	most, behind := inUse()
	if most > 1<<24 || behind == before {
		t.Errorf("%d bytes were in use at the last of %d collections", most, behind-before)
	}
}

// TestAllExported: P17.4: a dictionary decoded on its own exports what a region of the file stands on.
func TestAllExported(t *testing.T) {
	dc := dice(1)
	for range 60 {
		symbols := []api.Bitmap{dc.drawn(3, 1), dc.drawn(2, 2), dc.drawn(4, 2)}
		d := api.Dict{Template: 2, New: symbols, Export: []bool{dc.below(2) == 0, dc.below(2) == 0, true}}
		exported, _ := dict.Exported(d, nil)
		r := api.Text{W: 9, H: 4}
		for i := range exported {
			r.L = append(r.L, api.Instance{X: 3 * i, Y: i, Symbol: i})
		}
		data, _ := text.Encode(r, exported)
		want, _ := text.Draw(r, exported)
		l := row(stays(seg(api.SegDict, 0, dictBytes(d, nil))), seg(api.SegPage, 1, sheetOf(9, 4, 0)), seg(api.SegText, 1, data, 0), endPage, endFile)
		f, _ := file.Write(l, true)
		pages, _, err := file.Read(f)
		if err != api.OK || len(pages) != 1 || !slices.Equal(pages[0].Bits, want.Bits) {
			t.Fatalf("%v, error %d, want %v", pages, err, want)
		}
	}
}
