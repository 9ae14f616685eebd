package segment_test

import (
	"math"
	"runtime"
	"slices"
	"testing"

	"burin/api"
)

// TestExamples: P16.1, P16.2: the chapter's examples.
func TestExamples(t *testing.T) {
	text := api.Segment{Number: 3, Kind: api.SegText, Page: 1, Refs: []int{0, 2}, Keep: []bool{true, false}, Data: make([]byte, 5)}
	wantHeader(t, text, []byte{3, 3, 1, 2, 0, 2, 0x80, 5})
	wantHeader(t, api.Segment{Kind: api.SegEndFile}, []byte{0, 7, 0, 0, 0, 0})
	wantFault(t, []byte{1, 3, 1, 1, 1}, api.ErrHead)
	wantFault(t, []byte{1, 3, 1}, api.ErrEnd)
	wantFault(t, []byte{0, 8}, api.ErrHead)
	wantFault(t, []byte{0x80, 0}, api.ErrHead)
}

// TestByHand: P16.1, P16.2: headers of each kind, byte by byte.
func TestByHand(t *testing.T) {
	for _, x := range []struct {
		s    api.Segment
		want []byte
	}{
		{api.Segment{Kind: api.SegPage, Page: 1}, []byte{0, 1, 1, 0, 0, 0}},
		{api.Segment{Number: 127, Kind: api.SegPage, Page: 64, Data: make([]byte, 127)}, []byte{127, 1, 64, 0, 0, 127}},
		{api.Segment{Kind: api.SegDict}, []byte{0, 2, 0, 0, 0, 0}},
		{api.Segment{Kind: api.SegDict, Page: 64, Stay: true}, []byte{0, 2, 64, 0, 0x80, 0}},
		{api.Segment{Number: 200, Kind: api.SegDict, Refs: []int{199}, Keep: []bool{false}, Stay: true, Data: make([]byte, 300)}, []byte{0xc8, 1, 2, 0, 1, 0xc7, 1, 0x40, 0xac, 2}},
		{api.Segment{Number: 9, Kind: api.SegText, Page: 2}, []byte{9, 3, 2, 0, 0, 0}},
		{api.Segment{Number: 128, Kind: api.SegGeneric, Page: 3, Data: make([]byte, 128)}, []byte{0x80, 1, 4, 3, 0, 0, 0x80, 1}},
		{api.Segment{Number: 32767, Kind: api.SegStripe, Page: 4, Data: make([]byte, 1<<14)}, []byte{0xff, 0xff, 1, 5, 4, 0, 0, 0x80, 0x80, 1}},
		{api.Segment{Number: 16384, Kind: api.SegEndPage, Page: 5}, []byte{0x80, 0x80, 1, 6, 5, 0, 0, 0}},
		{api.Segment{Number: 32767, Kind: api.SegEndFile}, []byte{0xff, 0xff, 1, 7, 0, 0, 0, 0}},
	} {
		wantHeader(t, x.s, x.want)
	}
}

// TestFlags: P16.1, P16.2: as many references as fill a byte with their flags, and one more or less; each flag by itself, and each bit behind them.
func TestFlags(t *testing.T) {
	for count := range 26 {
		refs, _ := manyRefs(count)
		for _, kind := range []int{api.SegDict, api.SegText} {
			s := api.Segment{Number: count, Kind: kind, Page: 1, Refs: refs, Keep: make([]bool, count)}
			wantSegment(t, s)
			f := head(s, 0)
			size := count/8 + 1
			from := len(f) - 1 - size
			for bit := range 8 * size {
				changed := slices.Clone(f)
				changed[from+bit/8] |= 128 >> (bit % 8)
				switch {
				case bit < count:
					s.Keep[bit] = true
					wantHeader(t, s, changed)
					s.Keep[bit] = false
				case bit == count && kind == api.SegDict:
					s.Stay = true
					wantHeader(t, s, changed)
					s.Stay = false
				default:
					wantFault(t, changed, api.ErrHead)
					wantFault(t, changed[:from+size], api.ErrHead)
				}
			}
			for k := range size {
				wantFault(t, f[:from+k], api.ErrEnd)
			}
		}
	}
}

// TestMany: P16.1, P16.2: as many references as may be.
func TestMany(t *testing.T) {
	refs, keep := manyRefs(32767)
	for _, kind := range []int{api.SegDict, api.SegText} {
		s := api.Segment{Number: 32767, Kind: kind, Page: 64, Refs: refs, Keep: keep, Stay: kind == api.SegDict, Data: make([]byte, 1<<26)}
		wantSegment(t, s)
		s.Refs, s.Keep = append(slices.Clone(refs), 32767), append(slices.Clone(keep), true)
		wantRefused(t, s)
		f := head(s, 0)
		wantFault(t, f, api.ErrHead)
		wantFault(t, f[:8], api.ErrHead) // the number of references has been read
		wantFault(t, f[:7], api.ErrEnd)
	}
}

// TestNumbers: P16.1, P16.2: numbers up to their edges.
func TestNumbers(t *testing.T) {
	for _, n := range []int{0, 1, 127, 128, 16383, 16384, 32766, 32767} {
		for kind := api.SegPage; kind <= api.SegEndFile; kind++ {
			s := api.Segment{Number: n, Kind: kind}
			if kind != api.SegEndFile {
				s.Page = 1
			}
			wantSegment(t, s)
		}
	}
	for _, n := range farInts() {
		wantRefused(t, api.Segment{Number: n, Kind: api.SegEndFile})
		wantRefused(t, api.Segment{Number: n, Kind: api.SegDict, Refs: []int{0}, Keep: []bool{true}})
	}
	for _, n := range []uint64{32768, 32769, 1 << 16, 1 << 21, 1 << 32, 1 << 63, math.MaxUint64} {
		wantFault(t, vars(n), api.ErrHead)
		wantFault(t, append(vars(n), 7, 0, 0, 0, 0), api.ErrHead)
	}
}

// TestKinds: P16.1, P16.2: each byte that may stand for a kind.
func TestKinds(t *testing.T) {
	for kind := range 256 {
		if kind >= 1 && kind <= 7 {
			wantFault(t, []byte{0, byte(kind)}, api.ErrEnd)
			continue
		}
		wantFault(t, []byte{0, byte(kind)}, api.ErrHead)
		wantFault(t, []byte{0, byte(kind), 0, 0, 0, 0}, api.ErrHead)
		for page := range 2 {
			wantRefused(t, api.Segment{Kind: kind, Page: page})
		}
	}
	for _, kind := range append(farInts(), 8, 256, 257) {
		for page := range 2 {
			wantRefused(t, api.Segment{Kind: kind, Page: page})
		}
	}
}

// TestPages: P16.1, P16.2: the pages of each kind.
func TestPages(t *testing.T) {
	for kind := api.SegPage; kind <= api.SegEndFile; kind++ {
		for page := range 140 {
			s := api.Segment{Kind: kind, Page: page}
			may := page >= 1 && page <= 64
			switch kind {
			case api.SegDict:
				may = page <= 64
			case api.SegEndFile:
				may = page == 0
			}
			if may {
				wantSegment(t, s)
				continue
			}
			wantRefused(t, s)
			wantFault(t, head(s, 0), api.ErrHead)
			wantFault(t, append([]byte{0, byte(kind)}, vars(uint64(page))...), api.ErrHead)
		}
		for _, page := range farInts() {
			wantRefused(t, api.Segment{Kind: kind, Page: page})
			wantFault(t, head(api.Segment{Kind: kind, Page: page}, 0), api.ErrHead)
		}
	}
}

// TestRefs: P16.1, P16.2: references that are too many, fall, stand twice, or are not below the number.
func TestRefs(t *testing.T) {
	for kind := api.SegPage; kind <= api.SegEndFile; kind++ {
		page := 1
		if kind == api.SegEndFile {
			page = 0
		}
		for _, refs := range [][]int{{}, {0}, {5}, {0, 1, 2, 3, 4, 5}, {1, 3, 5}, {6}, {7}, {1, 1}, {0, 0}, {2, 1}, {1, 0}, {0, 3, 3}, {0, 5, 6}, {4, 5, 0}, {0, 1, 2, 3, 4, 5, 6}, {0, 0, 0, 0, 0, 0, 0}} {
			s := api.Segment{Number: 6, Kind: kind, Page: page, Refs: refs, Keep: make([]bool, len(refs))}
			if may := len(refs) == 0 || rise(refs) && (kind == api.SegDict || kind == api.SegText); may {
				wantSegment(t, s)
				continue
			}
			wantRefused(t, s)
			wantFault(t, head(s, 0), api.ErrHead)
		}
		wantFault(t, []byte{6, byte(kind), byte(page), 7}, api.ErrHead)
		wantFault(t, append([]byte{6, byte(kind), byte(page)}, vars(math.MaxUint64)...), api.ErrHead)
		if kind != api.SegDict && kind != api.SegText {
			wantFault(t, []byte{6, byte(kind), byte(page), 1}, api.ErrHead)
		}
	}
}

// rise tells whether numbers rise strictly, up to 5.
func rise(l []int) bool {
	return slices.IsSorted(l) && len(slices.Compact(slices.Clone(l))) == len(l) && l[len(l)-1] <= 5
}

// TestFarRefs: P16.1, P16.2: references that are none, told where they stand: what is behind is not read.
func TestFarRefs(t *testing.T) {
	for _, n := range append(farInts(), 9, 10) {
		for _, refs := range [][]int{{n}, {0, n}, {n, 5}, {0, 1, n}} {
			for _, kind := range []int{api.SegDict, api.SegText} {
				wantRefused(t, api.Segment{Number: 9, Kind: kind, Page: 1, Refs: refs, Keep: make([]bool, len(refs))})
			}
		}
		wantFault(t, append([]byte{9, 3, 1, 3, 0}, vars(uint64(n))...), api.ErrHead)
	}
	wantFault(t, []byte{9, 3, 1, 3, 4, 4}, api.ErrHead)
	wantFault(t, []byte{9, 3, 1, 3, 4, 3}, api.ErrHead)
	wantFault(t, []byte{9, 3, 1, 3, 4, 8}, api.ErrEnd)
	wantFault(t, []byte{9, 3, 1, 3, 4, 8, 9}, api.ErrHead)
}

// TestKeep: P16.1: a flag for each reference, no fewer and no more.
func TestKeep(t *testing.T) {
	for refs := range 10 {
		for keep := range 12 {
			s := api.Segment{Number: 20, Kind: api.SegDict, Keep: make([]bool, keep)}
			s.Refs, _ = manyRefs(refs)
			if keep == refs {
				wantSegment(t, s)
			} else {
				wantRefused(t, s)
			}
		}
	}
	for kind := api.SegPage; kind < api.SegEndFile; kind++ {
		wantRefused(t, api.Segment{Number: 20, Kind: kind, Page: 1, Keep: []bool{false}})
	}
	wantRefused(t, api.Segment{Number: 20, Kind: api.SegEndFile, Keep: []bool{false}})
}

// TestStay: P16.1, P16.2: only a dictionary stays; each byte of flags without references.
func TestStay(t *testing.T) {
	for kind := api.SegPage; kind <= api.SegEndFile; kind++ {
		s := api.Segment{Kind: kind, Page: 1, Stay: true}
		if kind == api.SegEndFile {
			s.Page = 0
		}
		if kind == api.SegDict {
			wantSegment(t, s)
		} else {
			wantRefused(t, s)
		}
		for flags := range 256 {
			f := []byte{0, byte(kind), byte(s.Page), 0, byte(flags)}
			want := api.ErrHead
			if flags == 0 || flags == 0x80 && kind == api.SegDict {
				want = api.ErrEnd // of the length, behind
			}
			wantFault(t, f, want)
		}
	}
}

// TestData: P16.1, P16.2: how many bytes the data of each kind may have.
func TestData(t *testing.T) {
	most := make([]byte, 1<<26+1)
	for kind := api.SegPage; kind <= api.SegEndFile; kind++ {
		s := api.Segment{Kind: kind, Page: 1}
		if kind == api.SegEndFile {
			s.Page = 0
		}
		for _, n := range []int{0, 1, 2, 127, 128, 1 << 20, 1<<26 - 1, 1 << 26, 1<<26 + 1} {
			s.Data = most[:n]
			if n == 0 || kind < api.SegEndPage && n <= 1<<26 {
				wantSegment(t, s)
				continue
			}
			wantRefused(t, s)
			wantFault(t, head(s, uint64(n)), api.ErrHead)
		}
		for _, n := range []uint64{1 << 27, 1 << 32, 1<<63 + 1, math.MaxUint64} {
			wantFault(t, head(s, n), api.ErrHead)
		}
	}
}

// TestVars: P16.2: where a Var may not be: at each place, whether something stands behind it or not; where it is cut off: ErrEnd.
func TestVars(t *testing.T) {
	ahead := [][]byte{{}, {9, 3}, {9, 3, 1}, {9, 3, 1, 3}, {9, 3, 1, 3, 0}, {9, 3, 1, 3, 0, 1}, {9, 3, 1, 3, 0, 1, 2, 0x40}}
	for _, f := range ahead {
		for _, wrong := range [][]byte{{0x80, 0}, {0x81, 0}, {0x81, 0x80, 0}, {0xff, 0xff, 0}, append(slices.Repeat([]byte{0x80}, 9), 0), append(slices.Repeat([]byte{0xff}, 9), 2), slices.Repeat([]byte{0xff}, 10), slices.Repeat([]byte{0x80}, 10), slices.Repeat([]byte{0xff}, 30)} {
			wantFault(t, slices.Concat(f, wrong), api.ErrHead)
			wantFault(t, slices.Concat(f, wrong, []byte{1, 1, 1, 1, 1}), api.ErrHead)
		}
		for k := range 10 {
			wantFault(t, slices.Concat(f, slices.Repeat([]byte{0xff}, k)), api.ErrEnd)
			wantFault(t, slices.Concat(f, slices.Repeat([]byte{0x80}, k)), api.ErrEnd)
		}
	}
}

// TestPlaces: P16.2: a place that is none: ErrEnd; each that is one.
func TestPlaces(t *testing.T) {
	f := []byte{0, 7, 0, 0, 0, 0}
	for _, at := range []int{math.MinInt, -1 << 32, -7, -6, -1, 6, 7, 8, 1 << 32, math.MaxInt - 9, math.MaxInt - 1, math.MaxInt} {
		wantDecoded(t, f, at, told{err: api.ErrEnd})
		wantDecoded(t, f[:0:0], at, told{err: api.ErrEnd})
		wantDecoded(t, nil, at, told{err: api.ErrEnd})
	}
	wantDecoded(t, nil, 0, told{err: api.ErrEnd})
	long := slices.Concat(slices.Repeat([]byte{0}, 20), f, slices.Repeat([]byte{3, 1}, 9))
	for at := range len(long) + 1 {
		wantDecoded(t, long, at, toldHeader(long, at))
	}
	wantDecoded(t, long, 20, told{s: api.Segment{Kind: api.SegEndFile}, end: 26})
}

// TestMemory: P16.2 (DOC.md's limits): no memory is taken for a size that is not there, nor for what stands behind the header.
func TestMemory(t *testing.T) {
	many := append(vars(32767), 3, 1)
	long := append([]byte{0, 1, 1, 0, 0, 0x80, 0x80, 0x80, 0x20}, make([]byte, 1<<20)...)
	for _, f := range [][]byte{slices.Concat(many, vars(32767)), slices.Concat(many, vars(32768)), slices.Concat(many, vars(1<<40)), long} {
		var before, behind runtime.MemStats
		runtime.ReadMemStats(&before)
		wantDecoded(t, f, 0, toldHeader(f, 0))
		runtime.ReadMemStats(&behind)
		if taken := behind.TotalAlloc - before.TotalAlloc; taken > 1<<14 {
			t.Errorf("%.50x: %d bytes were taken", f, taken)
		}
	}
}
