package segment_test

import (
	"bytes"
	"slices"
	"sync"
	"testing"

	"burin/api"
	"burin/segment"
)

// TestThereAndBack: P16.3: Decode of Encode is the segment without its data, whatever stands ahead and behind.
func TestThereAndBack(t *testing.T) {
	dc := dice(1)
	for range 3000 {
		s := dc.segment()
		wantSegment(t, s)
		h, err := segment.Encode(s)
		if err != api.OK {
			t.Fatalf("Encode(%s): error %d", text(s), err)
		}
		ahead, behind := dc.noise(dc.below(20)), dc.noise(dc.below(20))
		f := slices.Concat(ahead, h, behind)
		wantDecoded(t, f, len(ahead), told{s: bare(s), length: len(s.Data), end: len(ahead) + len(h)})
	}
}

// TestInARow: P16.3: the place behind a header, and the length, lead to the next one.
func TestInARow(t *testing.T) {
	dc := dice(2)
	var f []byte
	var l []api.Segment
	for range 300 {
		s := dc.segment()
		h, _ := segment.Encode(s)
		f, l = slices.Concat(f, h, s.Data), append(l, s)
	}
	at := 0
	for _, want := range l {
		s, length, end, err := segment.Decode(f, at)
		if err != api.OK || !same(s, bare(want)) || !bytes.Equal(f[end:end+length], want.Data) {
			t.Fatalf("Decode at %d: %s, error %d, want %s", at, text(s), err, text(want))
		}
		at = end + length
	}
	wantDecoded(t, f, at, told{err: api.ErrEnd})
}

// TestCut: P16.2: every beginning of a header that may be: ErrEnd.
func TestCut(t *testing.T) {
	dc := dice(3)
	for range 400 {
		s := dc.segment()
		f := head(s, uint64(len(s.Data)))
		for k := range f {
			wantFault(t, f[:k], api.ErrEnd)
		}
	}
}

// TestAnyBytes: P16.2, P16.4: over any bytes the first fault is told, or what they say.
func TestAnyBytes(t *testing.T) {
	dc := dice(4)
	met := map[api.Errno]int{}
	for range 60000 {
		f := dc.noise(dc.below(16))
		if dc.below(2) == 0 {
			f = append([]byte{byte(dc.below(20)), byte(1 + dc.below(7)), byte(dc.below(3)), byte(dc.below(4))}, f...)
		}
		at := dc.below(3) * dc.below(3)
		want := toldHeader(f, at)
		wantDecoded(t, f, at, want)
		met[want.err]++
	}
	if met[api.OK] < 100 || met[api.ErrEnd] < 100 || met[api.ErrHead] < 100 || len(met) != 3 {
		t.Errorf("too few of a kind: %v", met)
	}
}

// TestChanged: P16.2, P16.4: headers with one of their bytes changed, put in or taken away.
func TestChanged(t *testing.T) {
	dc := dice(5)
	met := map[api.Errno]int{}
	for range 20000 {
		s := dc.segment()
		f := head(s, uint64(len(s.Data)))
		at := dc.below(min(len(f), 20))
		switch dc.below(4) {
		case 0:
			f[at] ^= 1 << dc.below(8)
		case 1:
			f[at] = dc.noise(1)[0]
		case 2:
			f = slices.Insert(f, at, dc.noise(1)...)
		case 3:
			f = slices.Delete(f, at, at+1)
		}
		want := toldHeader(f, 0)
		wantDecoded(t, f, 0, want)
		met[want.err]++
	}
	if met[api.OK] < 100 || met[api.ErrEnd] < 100 || met[api.ErrHead] < 100 || len(met) != 3 {
		t.Errorf("too few of a kind: %v", met)
	}
}

// TestDecodedMayBe: P16.2: what Decode takes is a segment that may be, and its header stands in the bytes.
func TestDecodedMayBe(t *testing.T) {
	dc := dice(6)
	taken := 0
	for range 40000 {
		f := append([]byte{byte(dc.below(9)), byte(1 + dc.below(7)), byte(dc.below(3)), byte(dc.below(3))}, dc.noise(8)...)
		s, length, end, err := segment.Decode(f, 0)
		if err != api.OK || length > 1<<16 {
			continue
		}
		taken++
		s.Data = make([]byte, length)
		wantHeader(t, s, f[:end])
	}
	if taken < 100 {
		t.Errorf("only %d were taken", taken)
	}
}

// long are a segment's lists, with more behind each of them.
func long(s api.Segment) (refs []int, keep []bool, data []byte) {
	return append(slices.Clone(s.Refs), 0, -7), append(slices.Clone(s.Keep), true, true), append(slices.Clone(s.Data), 1, 2)
}

// TestHandedInStays: P16.4 (R2): what is handed in stays as it is, behind its length, too, and nothing is read there.
func TestHandedInStays(t *testing.T) {
	dc := dice(7)
	for range 500 {
		s := dc.segment()
		refs, keep, data := long(s)
		in := s
		in.Refs, in.Keep, in.Data = refs[:len(s.Refs)], keep[:len(s.Keep)], data[:len(s.Data)]
		wantSegment(t, in)
		want := head(s, uint64(len(s.Data)))
		f := append(slices.Clone(want), 0, 9)
		wantDecoded(t, f[:len(want)], 0, told{s: bare(s), length: len(s.Data), end: len(want)})
		wantDecoded(t, f[:len(want)-1], 0, told{err: api.ErrEnd})
		moreRefs, moreKeep, moreData := long(s)
		if !slices.Equal(refs, moreRefs) || !slices.Equal(keep, moreKeep) || !bytes.Equal(data, moreData) || !bytes.Equal(f, append(want, 0, 9)) {
			t.Fatal("what was handed in was changed, or what lies behind it")
		}
	}
}

// TestAnswerStays: P16.4 (R2): what was told stays, whatever becomes of what was handed in; the next answer is new.
func TestAnswerStays(t *testing.T) {
	dc := dice(8)
	for range 500 {
		s := dc.segment()
		want := head(s, uint64(len(s.Data)))
		in := s
		in.Refs, in.Keep, in.Data = slices.Clone(s.Refs), slices.Clone(s.Keep), slices.Clone(s.Data)
		bytesIn := slices.Clone(want)
		h, _ := segment.Encode(in)
		got, _, _, _ := segment.Decode(bytesIn, 0)
		clear(in.Refs)
		clear(in.Keep)
		clear(in.Data)
		clear(bytesIn)
		if !bytes.Equal(h, want) || !same(got, bare(s)) {
			t.Fatal("an answer changed with what was handed in")
		}
		clear(h[:cap(h)])
		clear(got.Refs[:cap(got.Refs)])
		clear(got.Keep[:cap(got.Keep)])
		wantSegment(t, s)
	}
}

// TestNilIsEmpty: P16.4 (R2): nil and empty lists are one.
func TestNilIsEmpty(t *testing.T) {
	for kind := api.SegPage; kind < api.SegEndFile; kind++ {
		s := api.Segment{Number: 5, Kind: kind, Page: 1}
		want := head(s, 0)
		wantHeader(t, s, want)
		s.Refs, s.Keep, s.Data = []int{}, []bool{}, []byte{}
		wantHeader(t, s, want)
		s.Refs = nil
		wantHeader(t, s, want)
	}
}

// TestShared: P16.4 (R2): what is handed in is only read, by several at the same time, too (go test -race tells).
func TestShared(t *testing.T) {
	dc := dice(9)
	s := dc.segment()
	want := head(s, uint64(len(s.Data)))
	var all sync.WaitGroup
	for range 4 {
		all.Go(func() {
			h, _ := segment.Encode(s)
			got, _, _, err := segment.Decode(want, 0)
			if !bytes.Equal(h, want) || !same(got, bare(s)) || err != api.OK || !segment.Check(s) {
				t.Error("other answers")
			}
		})
	}
	all.Wait()
}

// TestNoPanic: P16.4 (R3): calls end, whatever is handed in; beside an error stands nothing.
func TestNoPanic(t *testing.T) {
	dc := dice(10)
	far := farInts()
	for range 5000 {
		s := dc.segment()
		n := far[dc.below(len(far))]
		switch dc.below(6) {
		case 0:
			s.Number = n
		case 1:
			s.Kind = n
		case 2:
			s.Page = n
		case 3:
			s.Refs, s.Keep = append(slices.Clone(s.Refs), n), append(slices.Clone(s.Keep), true)
		case 4:
			s.Keep = append(slices.Clone(s.Keep), true)
		case 5:
			s.Refs = slices.Insert(slices.Clone(s.Refs), 0, n)
		}
		wantRefused(t, s)
	}
	for range 5000 {
		f := dc.noise(dc.below(9))
		at := append(farInts(), dc.below(12))[dc.below(len(far)+1)]
		wantDecoded(t, f, at, toldHeader(f, at))
	}
}
