package file_test

import (
	"bytes"
	"slices"
	"sync"
	"testing"

	"burin/api"
	"burin/bitmap"
	"burin/file"
	"burin/page"
)

// TestThereAndBack: P17.6: what Write writes Segments tells; both organisations are read as the same pages, those that were drawn.
func TestThereAndBack(t *testing.T) {
	dc := dice(10)
	pages := 0
	for range 400 {
		l := dc.document()
		if !wantWritten(t, l) {
			t.Fatalf("%s may not be", sketch(l))
		}
		n := uint64(countOf(l, api.SegPage))
		want := toldFile(laid(n, l, false), true)
		if want.err != api.OK {
			t.Fatalf("%s: error %d", sketch(l), want.err)
		}
		wantRead(t, laid(n, l, false), want)
		wantRead(t, laid(n, l, true), want)
		pages += len(want.pages)
	}
	if pages < 100 {
		t.Errorf("only %d pages", pages)
	}
}

// TestDrawnPages: P17.4, P17.6: pages that are cut into regions, row by row or stripe by stripe, are read as they were.
func TestDrawnPages(t *testing.T) {
	dc := dice(11)
	for range 200 {
		var want []api.Bitmap
		var l []api.Segment
		for n := range 1 + dc.below(3) {
			b := dc.drawn(1+dc.below(70), 1+dc.below(9))
			stripe := dc.below(4)
			want, l = append(want, b), append(l, seg(api.SegPage, n+1, sheetOf(b.W, b.H, stripe)))
			step := max(stripe, 1)
			for y := 0; y < b.H; y += step {
				m, _ := bitmap.From(b)
				part, _ := m.Crop(0, y, b.W, min(step, b.H-y))
				f, _ := page.EncodeRegion(api.Region{Y: y, Op: []int{api.OpOr, api.OpXor, api.OpReplace}[dc.below(3)], Template: dc.below(4), Skip: dc.below(2) == 0, B: part.Plain()})
				l = append(l, seg(api.SegGeneric, n+1, f))
				if stripe > 0 {
					l = append(l, seg(api.SegStripe, n+1, vars(uint64(min(y+step, b.H)-1))))
				}
			}
			l = append(l, seg(api.SegEndPage, n+1, nil))
		}
		l = row(append(l, endFile)...)
		for _, random := range []bool{false, true} {
			f, e1 := file.Write(l, random)
			pages, held, e2 := file.Read(f)
			if e1 != api.OK || e2 != api.OK || !slices.EqualFunc(pages, want, bitmap.Equal) || len(held) != len(l) {
				t.Fatalf("%v, errors %d, %d, want %v", pages, e1, e2, want)
			}
		}
	}
}

// TestCut: P17.6: every beginning of a file that Read takes is refused, by ErrMagic or ErrEnd; with anything behind it is ErrMore.
func TestCut(t *testing.T) {
	dc := dice(12)
	for range 60 {
		l := dc.document()
		for _, random := range []bool{false, true} {
			f := laid(uint64(countOf(l, api.SegPage)), l, random)
			for n := range f {
				want := api.ErrEnd
				if n < 4 {
					want = api.ErrMagic
				}
				wantFault(t, f[:n], want, want)
			}
			wantFault(t, append(f, dc.noise(1+dc.below(9))...), api.ErrMore, api.ErrMore)
		}
	}
}

// TestChangedBytes: P17.2 to P17.5: files with one of their bytes changed, put in or taken away, against the model.
func TestChangedBytes(t *testing.T) {
	dc := dice(13)
	met := map[api.Errno]int{}
	for range 12000 {
		l := dc.document()
		f := laid(uint64(countOf(l, api.SegPage)), l, dc.below(2) == 0)
		at := dc.below(len(f))
		switch dc.below(4) {
		case 0:
			f[at] ^= 1 << dc.below(8)
		case 1:
			f[at] = dc.noise(1)[0]
		case 2:
			f = slices.Insert(f, at, dc.noise(1)...)
		case 3:
			f = slices.Delete(f, at, at+1)
		}
		met[wantAsTold(t, f)]++
	}
	for _, err := range []api.Errno{api.OK, api.ErrDictForm, api.ErrTextForm, api.ErrPageForm, api.ErrPageOrder, api.ErrMagic, api.ErrHead, api.ErrNoSegment, api.ErrEnd, api.ErrMore} {
		if met[err] < 9 {
			t.Errorf("error %d: met %d times only", err, met[err])
		}
	}
}

// changed is a document's segments with something changed: a field, or their order.
func changed(dc *dice, l []api.Segment) []api.Segment {
	l = slices.Clone(l)
	at, other := dc.below(len(l)), dc.below(len(l))
	s := &l[at]
	switch dc.below(12) {
	case 0:
		s.Number += dc.below(3) - 1
	case 1:
		s.Kind = dc.below(9)
	case 2:
		s.Page = dc.below(5)
	case 3:
		n := dc.below(len(l))
		s.Refs, s.Keep = append(slices.Clone(s.Refs), n), append(slices.Clone(s.Keep), true)
	case 4:
		if len(s.Keep) > 0 {
			s.Keep = slices.Clone(s.Keep)
			k := dc.below(len(s.Keep))
			s.Keep[k] = !s.Keep[k]
		}
	case 5:
		s.Stay = !s.Stay
	case 6:
		s.Data = dc.noise(dc.below(5))
	case 7:
		s.Data = l[other].Data
	case 8:
		l[at], l[other] = l[other], l[at]
	case 9:
		l[at], l[other] = l[other], l[at]
		renumber(l)
	case 10:
		l = slices.Delete(l, at, at+1)
		renumber(l)
	case 11:
		l = slices.Insert(l, at, l[other])
		renumber(l)
	}
	return l
}

func renumber(l []api.Segment) {
	for i := range l {
		l[i].Number = i
	}
}

// TestChangedSegments: P17.1 to P17.5: segments of which one was changed, moved, put in or taken away, against the model: whether they are written; what is read of them as they are.
func TestChangedSegments(t *testing.T) {
	dc := dice(14)
	met, written := map[api.Errno]int{}, 0
	for range 12000 {
		l := changed(&dc, dc.document())
		if dc.below(4) == 0 && len(l) > 0 {
			l = changed(&dc, l)
		}
		if wantWritten(t, l) {
			written++
		}
		pages := uint64(countOf(l, api.SegPage))
		if dc.below(6) == 0 {
			pages = uint64(dc.below(5))
		}
		met[wantAsTold(t, laid(pages, l, dc.below(2) == 0))]++
	}
	for _, err := range []api.Errno{api.OK, api.ErrDictForm, api.ErrTextForm, api.ErrPageForm, api.ErrPageOrder, api.ErrHead, api.ErrNoSegment, api.ErrEnd, api.ErrMore} {
		if met[err] < 50 {
			t.Errorf("error %d: met %d times only", err, met[err])
		}
	}
	if written < 1000 {
		t.Errorf("only %d were written", written)
	}
}

// TestAnyBytes: P17.2, P17.7 (R3): over any bytes the first fault is told, or what they say.
func TestAnyBytes(t *testing.T) {
	dc := dice(15)
	for range 30000 {
		f := dc.noise(dc.below(40))
		if dc.below(8) > 0 {
			f = append(begun(byte(dc.below(2)), uint64(dc.below(3))), f...)
		}
		wantAsTold(t, f)
	}
}

// spare is a list with more behind it.
func spare[T any](l []T, more ...T) []T {
	return append(slices.Clone(l), more...)[:len(l)]
}

// TestHandedInStays: P17.7 (R2): what is handed in stays as it is, behind its length, too, and nothing is read there.
func TestHandedInStays(t *testing.T) {
	dc := dice(16)
	for range 100 {
		l := dc.document()
		in := slices.Clone(l)
		for i := range in {
			in[i].Refs, in[i].Keep, in[i].Data = spare(l[i].Refs, -7, 0), spare(l[i].Keep, true, false), spare(l[i].Data, 1, 2)
		}
		in = spare(in, seg(api.SegPage, 9, nil), endFile)
		wantWrite(t, in)
		wantRefused(t, in[:len(in)-1])
		for i, s := range in {
			if !sameSegment(s, l[i]) || !slices.Equal(s.Refs[:cap(s.Refs)][len(s.Refs):][:2], []int{-7, 0}) || !bytes.Equal(s.Data[:cap(s.Data)][len(s.Data):][:2], []byte{1, 2}) || !s.Keep[:cap(s.Keep)][len(s.Keep)] {
				t.Fatal("what was handed in was changed, or what lies behind it")
			}
		}
		for _, random := range []bool{false, true} {
			f := laid(uint64(countOf(l, api.SegPage)), l, random)
			long := spare(f, 0, 9)
			if wantAsTold(t, long) != api.OK || wantAsTold(t, long[:len(f)-1]) != api.ErrEnd {
				t.Fatal("another answer with more behind")
			}
			if !bytes.Equal(long[:len(f)+2], append(slices.Clone(f), 0, 9)) {
				t.Fatal("what was handed in was changed, or what lies behind it")
			}
		}
	}
}

// TestAnswerStays: P17.7 (R2): what was told stays, whatever becomes of what was handed in; the next answer is new.
func TestAnswerStays(t *testing.T) {
	dc := dice(17)
	for range 100 {
		l := dc.document()
		n := uint64(countOf(l, api.SegPage))
		for _, random := range []bool{false, true} {
			want := laid(n, l, random)
			in := slices.Clone(l)
			for i := range in {
				in[i].Refs, in[i].Keep, in[i].Data = slices.Clone(l[i].Refs), slices.Clone(l[i].Keep), slices.Clone(l[i].Data)
			}
			f, _ := file.Write(in, random)
			for _, s := range in {
				clear(s.Refs)
				clear(s.Keep)
				clear(s.Data)
			}
			handed := slices.Clone(want)
			pages, held, _ := file.Read(handed)
			again, _, _ := file.Segments(handed)
			clear(handed)
			told := toldFile(want, true)
			if !bytes.Equal(f, want) || !slices.EqualFunc(pages, told.pages, bitmap.Equal) || !slices.EqualFunc(held, told.held, sameHeld) || !slices.EqualFunc(again, l, sameSegment) {
				t.Fatal("an answer changed with what was handed in")
			}
			clear(f[:cap(f)])
			wantWrite(t, l)
		}
	}
}

// flood overwrites a list, and what lies behind its length.
func flood[T any](l []T, with T) {
	l = l[:cap(l)]
	for i := range l {
		l[i] = with
	}
}

// TestNothingShared: P17.7 (R2): no two lists of one answer share memory, nor do two answers.
func TestNothingShared(t *testing.T) {
	dc := dice(18)
	for range 100 {
		l := dc.document()
		for _, random := range []bool{false, true} {
			f := laid(uint64(countOf(l, api.SegPage)), l, random)
			want := toldFile(f, true)
			pages, held, _ := file.Read(f)
			for i := range pages {
				if !bitmap.Equal(pages[i], want.pages[i]) {
					t.Fatal("pages share memory")
				}
				flood(pages[i].Bits, 1<<63+1)
			}
			for i := range held {
				if !sameHeld(held[i], want.held[i]) {
					t.Fatal("what is held shares memory")
				}
				flood(held[i].Dicts, -9)
			}
			got, _, _ := file.Segments(f)
			for i := range got {
				if !sameSegment(got[i], l[i]) {
					t.Fatal("segments share memory")
				}
				flood(got[i].Refs, -9)
				flood(got[i].Keep, i%2 == 0)
				flood(got[i].Data, 0xa5)
			}
			wantRead(t, f, want)
			wantSegments(t, f, told{l: l, random: random})
		}
	}
}

// TestNilIsEmpty: P17.7 (R2): nil and empty lists are one.
func TestNilIsEmpty(t *testing.T) {
	l := row(seg(api.SegPage, 1, sheetOf(2, 2, 0)), seg(api.SegDict, 0, dictOf(nil)), endPage, endFile)
	empty := slices.Clone(l)
	for i := range empty {
		l[i].Keep = nil
		empty[i].Refs, empty[i].Keep, empty[i].Data = []int{}, []bool{}, append([]byte{}, l[i].Data...)
	}
	wantWrite(t, l)
	wantWrite(t, empty)
	wantRead(t, []byte{}, told{err: api.ErrMagic})
	wantSegments(t, []byte{}, told{err: api.ErrMagic})
}

// TestShared: P17.7 (R2): what is handed in is only read, by several at the same time, too (go test -race tells).
func TestShared(t *testing.T) {
	dc := dice(19)
	l := dc.document()
	f := laid(uint64(countOf(l, api.SegPage)), l, false)
	want := toldFile(f, true)
	var all sync.WaitGroup
	for range 4 {
		all.Go(func() {
			g, _ := file.Write(l, false)
			pages, _, _ := file.Read(f)
			got, _, _ := file.Segments(f)
			if !bytes.Equal(f, g) || !slices.EqualFunc(pages, want.pages, bitmap.Equal) || !slices.EqualFunc(got, l, sameSegment) {
				t.Error("other answers")
			}
		})
	}
	all.Wait()
}
