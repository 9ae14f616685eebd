package file_test

import (
	"bytes"
	"math"
	"slices"
	"testing"

	"burin/api"
	"burin/file"
	"burin/page"
	"burin/text"
)

var (
	endFile = api.Segment{Kind: api.SegEndFile}
	endPage = api.Segment{Kind: api.SegEndPage, Page: 1}
)

// TestExamples: P17.1 to P17.5: the chapter's examples.
func TestExamples(t *testing.T) {
	none := []byte{0x42, 0x55, 0x52, 1, 0, 0, 0, 7, 0, 0, 0, 0}
	if f, err := file.Write([]api.Segment{endFile}, false); err != api.OK || !bytes.Equal(f, none) {
		t.Fatalf("no pages: %x, error %d", f, err)
	}
	wantRead(t, none, told{held: []api.Held{{}}})
	wantSegments(t, none, told{l: []api.Segment{endFile}})
	wantFault(t, append(slices.Clone(none), 0), api.ErrMore, api.ErrMore)
	wantFault(t, none[:len(none)-1], api.ErrEnd, api.ErrEnd)
	wantFault(t, []byte{0x42, 0x55, 0x52, 2}, api.ErrMagic, api.ErrMagic)
	two := row(stays(seg(api.SegDict, 0, dictOf(nil))), stays(seg(api.SegDict, 0, dictOf(nil), 0)), endFile)
	wantWrite(t, two)
	three := row(two[0], two[1], seg(api.SegDict, 0, dictOf(nil), 0), endFile)
	wantRefused(t, three)
	for _, random := range []bool{false, true} {
		wantRead(t, laid(0, two, random), told{held: []api.Held{{Dicts: []int{0}}, {Number: 1, Dicts: []int{1}}, {Number: 2, Dicts: []int{1}}}})
		wantFault(t, laid(0, three, random), api.ErrNoSegment, api.ErrNoSegment)
	}
}

// TestByHand: P17.1, P17.3, P17.5: a page without regions, byte by byte, in both organisations.
func TestByHand(t *testing.T) {
	l := row(seg(api.SegPage, 1, []byte{3, 2, 1, 0}), endPage, endFile)
	for random, want := range map[bool][]byte{
		false: {0x42, 0x55, 0x52, 1, 0, 1, 0, 1, 1, 0, 0, 4, 3, 2, 1, 0, 1, 6, 1, 0, 0, 0, 2, 7, 0, 0, 0, 0},
		true:  {0x42, 0x55, 0x52, 1, 1, 1, 0, 1, 1, 0, 0, 4, 1, 6, 1, 0, 0, 0, 2, 7, 0, 0, 0, 0, 3, 2, 1, 0},
	} {
		if f, err := file.Write(l, random); err != api.OK || !bytes.Equal(f, want) {
			t.Fatalf("%v: %x, error %d, want %x", random, f, err, want)
		}
		wantSegments(t, want, told{l: l, random: random})
		wantRead(t, want, told{pages: []api.Bitmap{raster("###", "###")}, held: []api.Held{{}, {Number: 1}, {Number: 2}}})
	}
}

// TestPixels: P17.4, P17.5: a page of a generic region and one of symbols that come by two dictionaries, pixel by pixel.
func TestPixels(t *testing.T) {
	a, b, c, other := raster("#"), raster(".#"), raster("##", "#."), raster("#.")
	r := api.Text{X: 1, Y: 1, W: 4, H: 2, Op: api.OpXor, Refine: true, Default: 1, L: []api.Instance{{Symbol: 1}, {X: 2, Symbol: 2}, {Y: 1, Differ: true, B: other}}}
	data, _ := text.Encode(r, []api.Bitmap{b, b, c})
	g, _ := page.EncodeRegion(api.Region{X: 4, B: raster("##", "#.")})
	first := dictBytes(api.Dict{Template: 1, New: []api.Bitmap{a, b}, Export: []bool{false, true}}, nil)
	second := dictBytes(api.Dict{Template: 2, New: []api.Bitmap{c}, Export: []bool{true, true}}, []api.Bitmap{b})
	l := row(stays(seg(api.SegDict, 0, first)), seg(api.SegPage, 1, sheetOf(6, 3, 0)), seg(api.SegGeneric, 1, g),
		stays(keeps(seg(api.SegDict, 1, second, 0), true)), keeps(seg(api.SegText, 1, data, 0, 3), false, true), endPage, endFile)
	wantWrite(t, l)
	want := told{pages: []api.Bitmap{raster("....##", ".#..#.", "..#.#.")}, held: []api.Held{
		{Dicts: []int{0}}, {Number: 1, Dicts: []int{0}}, {Number: 2, Dicts: []int{0}}, {Number: 3, Dicts: []int{0, 3}},
		{Number: 4, Dicts: []int{3}}, {Number: 5, Dicts: []int{3}}, {Number: 6, Dicts: []int{3}}}}
	wantRead(t, laid(1, l, false), want)
	wantRead(t, laid(1, l, true), want)
}

// TestStripes: P17.4, P17.5: a page in stripes, the last one the shorter; each region within its own.
func TestStripes(t *testing.T) {
	b := raster("#.#", "##.", "..#", "#..", ".#.")
	l := row(seg(api.SegPage, 1, sheetOf(3, 5, 2)), seg(api.SegGeneric, 1, regionOf(0, raster("#.#", "##."))), seg(api.SegStripe, 1, []byte{1}),
		seg(api.SegGeneric, 1, regionOf(3, raster("#.."))), seg(api.SegGeneric, 1, regionOf(2, raster("..#"))), seg(api.SegStripe, 1, []byte{3}),
		seg(api.SegGeneric, 1, regionOf(4, raster(".#."))), seg(api.SegStripe, 1, []byte{4}), endPage, endFile)
	wantWrite(t, l)
	for _, random := range []bool{false, true} {
		f := laid(1, l, random)
		wantAsTold(t, f)
		pages, _, err := file.Read(f)
		if err != api.OK || len(pages) != 1 || !slices.Equal(pages[0].Bits, b.Bits) {
			t.Fatalf("%v, error %d", pages, err)
		}
	}
}

// letters are segments without data, of each kind, of up to two pages.
func letters() []api.Segment {
	l := []api.Segment{endFile, seg(api.SegDict, 0, nil)}
	for page := range 2 {
		for _, kind := range []int{api.SegPage, api.SegDict, api.SegText, api.SegGeneric, api.SegStripe, api.SegEndPage} {
			l = append(l, seg(kind, page+1, nil))
		}
	}
	return l
}

// TestOrder: P17.1, P17.2: all rows of up to four segments, with the file's end behind or not, said to have so many pages.
func TestOrder(t *testing.T) {
	met := map[api.Errno]int{}
	var from func(l []api.Segment)
	from = func(l []api.Segment) {
		for _, l := range [][]api.Segment{row(slices.Clone(l)...), row(append(slices.Clone(l), endFile)...)} {
			wantWritten(t, l)
			for pages := range uint64(3) {
				for _, random := range []bool{false, true} {
					f := laid(pages, l, random)
					want := toldFile(f, false)
					wantSegments(t, f, want)
					met[want.err]++
				}
			}
		}
		if len(l) < 4 {
			for _, s := range letters() {
				from(append(slices.Clone(l), s))
			}
		}
	}
	from(nil)
	if met[api.OK] < 100 || met[api.ErrEnd] < 100 || met[api.ErrPageOrder] < 1000 || met[api.ErrMore] < 100 || len(met) != 4 {
		t.Errorf("too few of a kind: %v", met)
	}
}

// TestHolding: P17.1, P17.2, P17.5: all rows of four dictionaries, each with all references, kept or not, and staying or not.
func TestHolding(t *testing.T) {
	data := dictOf(nil)
	met := map[api.Errno]int{}
	var from func(l []api.Segment)
	from = func(l []api.Segment) {
		if len(l) == 4 {
			l := row(append(slices.Clone(l), endFile)...)
			wantWritten(t, l)
			met[wantAsTold(t, laid(0, l, false))]++
			met[wantAsTold(t, laid(0, l, true))]++
			return
		}
		turns := 2
		for range l {
			turns *= 3
		}
		for turn := range turns {
			s := seg(api.SegDict, 0, data)
			s.Stay = turn%2 == 1
			turn /= 2
			for n := range l {
				if turn%3 > 0 {
					s.Refs, s.Keep = append(s.Refs, n), append(s.Keep, turn%3 == 2)
				}
				turn /= 3
			}
			from(append(slices.Clone(l), s))
		}
	}
	from(nil)
	if met[api.OK] < 1000 || met[api.ErrNoSegment] < 1000 || len(met) != 2 {
		t.Errorf("too few of a kind: %v", met)
	}
}

// TestBeginning: P17.2: faults ahead of the segments, the first from the left.
func TestBeginning(t *testing.T) {
	rest := head(endFile, 0)
	none := slices.Concat(begun(0, 0), rest)
	for n := range 4 {
		wantFault(t, none[:n], api.ErrMagic, api.ErrMagic)
		for bit := range 8 {
			f := slices.Clone(none)
			f[n] ^= 1 << bit
			wantFault(t, f, api.ErrMagic, api.ErrMagic)
			wantFault(t, f[:n+1], api.ErrMagic, api.ErrMagic)
		}
	}
	wantFault(t, nil, api.ErrMagic, api.ErrMagic)
	wantFault(t, none[:4], api.ErrEnd, api.ErrEnd)
	for how := 2; how < 256; how++ {
		f := []byte{0x42, 0x55, 0x52, 1, byte(how)}
		wantFault(t, f, api.ErrHead, api.ErrHead)
		wantFault(t, append(f, 0x80), api.ErrHead, api.ErrHead)
		wantFault(t, slices.Concat(f, []byte{0}, rest), api.ErrHead, api.ErrHead)
	}
	for how := range 2 {
		f := []byte{0x42, 0x55, 0x52, 1, byte(how)}
		for groups := range 10 {
			wantFault(t, slices.Concat(f, slices.Repeat([]byte{0x80}, groups)), api.ErrEnd, api.ErrEnd)
			wantFault(t, slices.Concat(f, slices.Repeat([]byte{0xff}, groups)), api.ErrEnd, api.ErrEnd)
		}
		for _, pages := range [][]byte{{65}, {127}, {0x80, 0}, {0x81, 0}, {0xc0, 0}, {0x80, 1}, {0xff, 0xff, 0}, vars(1 << 32), vars(1<<32 + 1), vars(1 << 63), vars(math.MaxUint64), slices.Repeat([]byte{0xff}, 10), append(slices.Repeat([]byte{0x80}, 9), 2), append(slices.Repeat([]byte{0x80}, 9), 0), slices.Repeat([]byte{0x80}, 30)} {
			wantFault(t, slices.Concat(f, pages), api.ErrHead, api.ErrHead)
			wantFault(t, slices.Concat(f, pages, rest), api.ErrHead, api.ErrHead)
		}
	}
}

// TestMostPages: P17.1, P17.2, P17.5: as many pages as may be, and one more; fewer and more than are said.
func TestMostPages(t *testing.T) {
	var l []api.Segment
	for n := range 65 {
		if n == 64 {
			wantWrite(t, row(append(slices.Clone(l), endFile)...))
		}
		l = append(l, seg(api.SegPage, n+1, sheetOf(1, 1, 0)), seg(api.SegEndPage, n+1, nil))
		l := row(append(slices.Clone(l), endFile)...)
		if n == 64 {
			wantRefused(t, l)
		}
		for _, random := range []bool{false, true} {
			for said := n; said < n+3 && said <= 64; said++ {
				want := api.ErrPageOrder
				switch {
				case said == n+1:
					want = api.OK
				case n == 64:
					want = api.ErrHead
				}
				wantFault(t, laid(uint64(said), l, random), want, want)
			}
		}
	}
}

// TestMostSegments: P17.1, P17.2, P17.5: as many segments as may be, and one more.
func TestMostSegments(t *testing.T) {
	var l []api.Segment
	for range api.MaxSegments - 1 {
		l = append(l, seg(api.SegDict, 0, nil))
	}
	more := row(append(slices.Clone(l), l[0], endFile)...)
	wantRefused(t, more)
	l = row(append(l, endFile)...)
	wantWrite(t, l)
	for _, random := range []bool{false, true} {
		wantSegments(t, laid(0, more, random), told{err: api.ErrHead})
	}
	data := dictOf(nil)
	held := []api.Held{}
	for i := range l[:api.MaxSegments-1] {
		l[i].Data = data
		held = append(held, api.Held{Number: i})
	}
	f, _ := file.Write(l, true)
	wantRead(t, f, told{held: append(held, api.Held{Number: api.MaxSegments - 1})})
}

// TestMostHeld: P17.1, P17.5: many dictionaries that are held, told rising; a segment that refers to all of them, and lets every third one go.
func TestMostHeld(t *testing.T) {
	var l []api.Segment
	data := dictOf(nil)
	all := seg(api.SegDict, 0, data)
	for n := range 400 {
		l = append(l, stays(seg(api.SegDict, 0, data)))
		all.Refs, all.Keep = append(all.Refs, n), append(all.Keep, n%3 > 0)
	}
	l = row(append(l, all, endFile)...)
	wantWrite(t, l)
	for _, random := range []bool{false, true} {
		wantFault(t, laid(0, l, random), api.OK, api.OK)
	}
}

// TestWrongSegments: P17.1: segments that may not be, each in a row that else may be.
func TestWrongSegments(t *testing.T) {
	wantRefused(t, nil)
	wantRefused(t, []api.Segment{})
	good := row(stays(seg(api.SegDict, 0, nil)), seg(api.SegPage, 1, nil), keeps(seg(api.SegText, 1, nil, 0), true), seg(api.SegGeneric, 1, nil), seg(api.SegStripe, 1, nil), endPage, endFile)
	wantWrite(t, good)
	for i := range good {
		for _, n := range farInts() {
			for _, turn := range []func(s *api.Segment){
				func(s *api.Segment) { s.Number = n },
				func(s *api.Segment) { s.Kind = n },
				func(s *api.Segment) { s.Page = n },
				func(s *api.Segment) { s.Refs, s.Keep = []int{n}, []bool{true} },
			} {
				l := slices.Clone(good)
				turn(&l[i])
				wantRefused(t, l)
			}
		}
		for _, turn := range []func(s *api.Segment){
			func(s *api.Segment) { s.Number++ },
			func(s *api.Segment) { s.Number-- },
			func(s *api.Segment) { s.Kind = api.SegNone },
			func(s *api.Segment) { s.Kind = api.SegEndFile + 1 },
			func(s *api.Segment) { s.Page = 2 },
			func(s *api.Segment) { s.Refs = []int{i}; s.Keep = []bool{true} },
			func(s *api.Segment) { s.Keep = append([]bool{true}, s.Keep...) },
		} {
			l := slices.Clone(good)
			turn(&l[i])
			wantRefused(t, l)
		}
		wantRefused(t, good[:i])
		wantRefused(t, row(slices.Insert(slices.Clone(good), i, endFile)...))
	}
	for _, l := range [][]api.Segment{{good[0], endFile, endFile}, {endFile, good[0]}, {endFile, endFile}, {endFile, good[0], endFile}, {endPage, endFile}} {
		wantRefused(t, row(slices.Clone(l)...))
	}
	long := make([]byte, api.MaxBytes+1)
	wantRefused(t, row(seg(api.SegDict, 0, long), endFile))
	wantRefused(t, row(seg(api.SegPage, 1, nil), seg(api.SegEndPage, 1, long[:1]), endFile))
	wantRefused(t, row(seg(api.SegEndFile, 0, long[:1])))
}

// TestNotLookedInto: P17.1, P17.3: data that no reader takes are written, and told.
func TestNotLookedInto(t *testing.T) {
	noise := []byte{0xff, 0, 0x80}
	l := row(stays(seg(api.SegDict, 0, noise)), seg(api.SegPage, 1, noise), seg(api.SegText, 1, noise, 0), seg(api.SegGeneric, 1, noise), seg(api.SegStripe, 1, noise), endPage, endFile)
	wantWrite(t, l)
	for _, random := range []bool{false, true} {
		wantFault(t, laid(1, l, random), api.ErrDictForm, api.OK)
	}
	great := row(seg(api.SegDict, 0, make([]byte, api.MaxBytes)), endFile)
	for _, random := range []bool{false, true} {
		f, err := file.Write(great, random)
		if l, _, e := file.Segments(f); err != api.OK || e != api.OK || len(l) != 2 || len(l[0].Data) != api.MaxBytes || len(f) < api.MaxBytes {
			t.Fatalf("errors %d, %d", err, e)
		}
	}
}

// TestHeaders: P17.2: faults of a header, the first that the chapter lists: it may not be; its number; its place; what it refers to.
func TestHeaders(t *testing.T) {
	ahead := row(stays(seg(api.SegDict, 0, dictOf(nil))), seg(api.SegPage, 1, sheetOf(9, 9, 0)), keeps(seg(api.SegText, 1, textOf(0, 1), 0), false))
	for _, c := range []struct {
		f    []byte
		want api.Errno
	}{
		{nil, api.ErrEnd},
		{[]byte{3}, api.ErrEnd},
		{[]byte{4}, api.ErrEnd},
		{[]byte{3, 8}, api.ErrHead},
		{[]byte{3, 0}, api.ErrHead},
		{[]byte{0x83, 0}, api.ErrHead},
		{[]byte{3, 1, 65}, api.ErrHead},
		{[]byte{4, 3, 2, 1, 3, 0}, api.ErrEnd},
		{[]byte{4, 3, 2, 1, 4, 0, 0}, api.ErrHead},
		{[]byte{4, 3, 2, 1, 3, 1, 0}, api.ErrHead},
		{[]byte{4, 3, 1, 0, 0, 0}, api.ErrHead},
		{[]byte{4, 1, 2, 0, 0, 0}, api.ErrHead},
		{[]byte{2, 6, 1, 0, 0, 0}, api.ErrHead},
		{[]byte{0, 7, 0, 0, 0, 0}, api.ErrHead},
		{[]byte{2, 3, 2, 1, 0, 0, 0}, api.ErrHead},
		{[]byte{3, 3, 2, 1, 0, 0, 0}, api.ErrPageOrder},
		{[]byte{3, 2, 2, 1, 0, 0, 0}, api.ErrPageOrder},
		{[]byte{3, 1, 2, 0, 0, 0}, api.ErrPageOrder},
		{[]byte{3, 4, 2, 0, 0, 0}, api.ErrPageOrder},
		{[]byte{3, 5, 2, 0, 0, 0}, api.ErrPageOrder},
		{[]byte{3, 6, 2, 0, 0, 0}, api.ErrPageOrder},
		{[]byte{3, 7, 0, 0, 0, 0}, api.ErrPageOrder},
		{[]byte{3, 3, 1, 1, 0, 0, 0}, api.ErrNoSegment},
		{[]byte{3, 3, 1, 1, 1, 0, 9}, api.ErrNoSegment},
		{[]byte{3, 3, 1, 1, 2, 0x80, 0}, api.ErrNoSegment},
		{[]byte{3, 2, 0, 1, 0, 0xc0, 0}, api.ErrNoSegment},
		{[]byte{3, 2, 1, 0, 0, 1}, api.ErrEnd},
		{[]byte{3, 4, 1, 0, 0, 0xff, 0xff, 3, 0}, api.ErrEnd},
	} {
		wantFault(t, append(laid(2, ahead, false), c.f...), c.want, c.want)
		if c.want != api.ErrEnd || len(c.f) < 6 {
			heads := begun(1, 2)
			for _, s := range ahead {
				heads = append(heads, head(s, uint64(len(s.Data)))...)
			}
			wantFault(t, append(heads, c.f...), c.want, c.want)
		}
	}
}

// TestWhichFirst: P17.2: in a sequential file each segment's data come ahead of the next header; in a random-access one all headers come first; more behind is told last.
func TestWhichFirst(t *testing.T) {
	l := row(seg(api.SegPage, 1, []byte{0}), seg(api.SegGeneric, 1, []byte{0xff}), seg(api.SegText, 1, nil, 1), endPage, endFile)
	wantFault(t, laid(1, l, false), api.ErrPageForm, api.ErrNoSegment)
	wantFault(t, laid(1, l, true), api.ErrNoSegment, api.ErrNoSegment)
	l = row(stays(seg(api.SegDict, 0, []byte{9})), seg(api.SegPage, 1, []byte{1, 2, 3}), endPage, endFile)
	for _, random := range []bool{false, true} {
		f := laid(1, l, random)
		wantFault(t, f, api.ErrDictForm, api.OK)
		wantFault(t, append(f, 0), api.ErrDictForm, api.ErrMore)
		wantFault(t, f[:len(f)-1], api.ErrDictForm, api.ErrEnd)
	}
	f := laid(1, l, true)
	wantFault(t, f[:len(f)-4], api.ErrEnd, api.ErrEnd) // the dictionary's data lack
	f = laid(1, l, true)
	wantFault(t, f[:len(f)-5], api.ErrEnd, api.ErrEnd) // a header lacks
	good := row(seg(api.SegPage, 1, sheetOf(1, 1, 0)), endPage, endFile)
	for _, random := range []bool{false, true} {
		for _, more := range [][]byte{{0}, {0xff}, []byte("BUR\x01"), head(endFile, 0), laid(1, good, random)} {
			wantFault(t, append(laid(1, good, random), more...), api.ErrMore, api.ErrMore)
		}
	}
}

// TestLacking: P17.2: data that are fewer than a header says, by one and by many; no memory is taken for them.
func TestLacking(t *testing.T) {
	s := seg(api.SegDict, 0, nil)
	for _, length := range []uint64{1, 2, 100, 1 << 20, api.MaxBytes} {
		f := append(begun(0, 0), head(s, length)...)
		wantFault(t, f, api.ErrEnd, api.ErrEnd)
		wantFault(t, append(f, make([]byte, min(length, 1<<12)-1)...), api.ErrEnd, api.ErrEnd)
		last := api.Segment{Number: 1, Kind: api.SegEndFile}
		f = slices.Concat(begun(1, 0), head(s, length), head(last, 0))
		wantFault(t, f, api.ErrEnd, api.ErrEnd)
		wantFault(t, append(f, make([]byte, min(length, 1<<12)-1)...), api.ErrEnd, api.ErrEnd)
	}
	wantFault(t, append(begun(0, 0), head(s, api.MaxBytes+1)...), api.ErrHead, api.ErrHead)
}
