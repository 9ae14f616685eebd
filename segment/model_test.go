package segment_test

import (
	"bytes"
	"encoding/binary"
	"fmt"
	"math"
	"slices"
	"testing"

	"burin/api"
	"burin/segment"
)

// vars are numbers as Vars, one behind the other.
func vars(l ...uint64) []byte {
	var f []byte
	for _, n := range l {
		f = binary.AppendUvarint(f, n)
	}
	return f
}

// packed are flags as bytes, the first one the highest bit.
func packed(l ...bool) []byte {
	f := make([]byte, (len(l)+7)/8)
	for i, flag := range l {
		if flag {
			f[i/8] |= 128 >> (i % 8)
		}
	}
	return f
}

// head is a header's bytes, of whatever is in the segment; length stands for its data.
func head(s api.Segment, length uint64) []byte {
	f := append(vars(uint64(s.Number)), byte(s.Kind))
	f = append(f, vars(uint64(s.Page), uint64(len(s.Refs)))...)
	for _, ref := range s.Refs {
		f = append(f, vars(uint64(ref))...)
	}
	f = append(f, packed(append(slices.Clone(s.Keep), s.Stay)...)...)
	return append(f, vars(length)...)
}

// toldVar reads a Var as the document's words do; the place behind it.
func toldVar(f []byte, at int) (n uint64, end int, err api.Errno) {
	for k := range 10 {
		if at+k >= len(f) {
			return 0, 0, api.ErrEnd
		}
		group := uint64(f[at+k])
		if k > 0 && group == 0 || k == 9 && group > 1 {
			return 0, 0, api.ErrHead
		}
		n += group % 128 << (7 * k)
		if group < 128 {
			return n, at + k + 1, api.OK
		}
	}
	return 0, 0, api.ErrHead
}

// told is what Decode should tell.
type told struct {
	s           api.Segment
	length, end int
	err         api.Errno
}

// toldHeader reads a header as the chapter's words do.
func toldHeader(f []byte, at int) told {
	if at < 0 || at > len(f) {
		return told{err: api.ErrEnd}
	}
	var s api.Segment
	number, at, err := toldVar(f, at)
	switch {
	case err != api.OK:
		return told{err: err}
	case number > 32767:
		return told{err: api.ErrHead}
	case at == len(f):
		return told{err: api.ErrEnd}
	case f[at] == 0 || f[at] > 7:
		return told{err: api.ErrHead}
	}
	s.Number, s.Kind = int(number), int(f[at])
	page, at, err := toldVar(f, at+1)
	switch {
	case err != api.OK:
		return told{err: err}
	case page > 64 || page > 0 && s.Kind == api.SegEndFile || page == 0 && s.Kind != api.SegEndFile && s.Kind != api.SegDict:
		return told{err: api.ErrHead}
	}
	s.Page = int(page)
	return toldRefs(f, at, s)
}

func toldRefs(f []byte, at int, s api.Segment) told {
	count, at, err := toldVar(f, at)
	switch {
	case err != api.OK:
		return told{err: err}
	case count > uint64(s.Number) || count > 0 && s.Kind != api.SegDict && s.Kind != api.SegText:
		return told{err: api.ErrHead}
	}
	for k := range int(count) {
		var ref uint64
		ref, at, err = toldVar(f, at)
		switch {
		case err != api.OK:
			return told{err: err}
		case ref >= uint64(s.Number) || k > 0 && ref <= uint64(s.Refs[k-1]):
			return told{err: api.ErrHead}
		}
		s.Refs = append(s.Refs, int(ref))
	}
	return toldRest(f, at, s)
}

func toldRest(f []byte, at int, s api.Segment) told {
	size := (len(s.Refs) + 1 + 7) / 8
	for k := range 8 * size {
		if at+k/8 >= len(f) {
			return told{err: api.ErrEnd}
		}
		flag := f[at+k/8]&(128>>(k%8)) != 0
		switch {
		case k < len(s.Refs):
			s.Keep = append(s.Keep, flag)
		case k == len(s.Refs) && s.Kind == api.SegDict:
			s.Stay = flag
		case flag:
			return told{err: api.ErrHead}
		}
	}
	length, end, err := toldVar(f, at+size)
	switch {
	case err != api.OK:
		return told{err: err}
	case length > 1<<26 || length > 0 && s.Kind >= api.SegEndPage:
		return told{err: api.ErrHead}
	}
	return told{s: s, length: int(length), end: end}
}

// dice tells numbers that are the same in each run.
type dice uint64

func (d *dice) below(n int) int {
	*d += 0x9e3779b97f4a7c15
	z := uint64(*d)
	z = (z ^ z>>30) * 0xbf58476d1ce4e5b9
	z = (z ^ z>>27) * 0x94d049bb133111eb
	return int((z ^ z>>31) % uint64(n))
}

// segment is one that may be.
func (d *dice) segment() api.Segment {
	s := api.Segment{Number: d.number(), Kind: 1 + d.below(7), Page: 1 + d.below(64)}
	switch s.Kind {
	case api.SegDict:
		s.Stay = d.below(2) == 0
		s.Page = d.below(65)
	case api.SegEndFile:
		s.Page = 0
	}
	if s.Kind == api.SegDict || s.Kind == api.SegText {
		s.Refs, s.Keep = d.refs(s.Number)
	}
	if s.Kind < api.SegEndPage && d.below(3) > 0 {
		s.Data = d.noise([]int{1, 5, 127, 128, 300, 1 << 14}[d.below(6)])
	}
	return s
}

func (d *dice) number() int {
	edges := []int{0, 1, 2, 127, 128, 300, 1<<14 - 1, 1 << 14, 32766, 32767}
	if d.below(2) == 0 {
		return edges[d.below(len(edges))]
	}
	return d.below(40)
}

// refs are some of the numbers below, rising, and a flag for each.
func (d *dice) refs(number int) (refs []int, keep []bool) {
	step := 1 + number/(1+d.below(30))
	for ref := d.below(step); ref < number; ref += 1 + d.below(step) {
		refs, keep = append(refs, ref), append(keep, d.below(2) == 0)
	}
	return refs, keep
}

func (d *dice) noise(n int) []byte {
	b := make([]byte, n)
	for i := range b {
		b[i] = byte(d.below(256))
		if d.below(3) > 0 {
			b[i] = []byte{0, 1, 2, 3, 7, 0x40, 0x80, 0xff}[d.below(8)]
		}
	}
	return b
}

// farInts are no number, kind, page or reference.
func farInts() []int {
	return []int{math.MinInt, math.MinInt + 1, -1 << 32, -32768, -256, -1, 32768, 32769, 1 << 16, 1 << 32, 1<<32 + 1, math.MaxInt - 1, math.MaxInt}
}

// manyRefs are all numbers below, and a flag for each.
func manyRefs(number int) (refs []int, keep []bool) {
	for ref := range number {
		refs, keep = append(refs, ref), append(keep, ref%3 == 0)
	}
	return refs, keep
}

func same(a, b api.Segment) bool {
	return a.Number == b.Number && a.Kind == b.Kind && a.Page == b.Page && a.Stay == b.Stay &&
		slices.Equal(a.Refs, b.Refs) && slices.Equal(a.Keep, b.Keep) && bytes.Equal(a.Data, b.Data)
}

// isNothing tells whether a segment is what stands beside an error.
func isNothing(s api.Segment) bool {
	return same(s, api.Segment{}) && s.Refs == nil && s.Keep == nil && s.Data == nil
}

func bare(s api.Segment) api.Segment {
	s.Data = nil
	return s
}

// text tells a segment in one line; of its references only the first.
func text(s api.Segment) string {
	return fmt.Sprintf("number %d, kind %d, page %d, %d references %v, %d flags, stay %v, %d bytes", s.Number, s.Kind, s.Page, len(s.Refs), s.Refs[:min(9, len(s.Refs))], len(s.Keep), s.Stay, len(s.Data))
}

// wantHeader asks for a segment's header, and for the segment of that, with bytes ahead and behind.
func wantHeader(t *testing.T, s api.Segment, want []byte) {
	t.Helper()
	if !segment.Check(s) {
		t.Fatalf("%s: may not be", text(s))
	}
	h, err := segment.Encode(s)
	if err != api.OK || !bytes.Equal(h, want) {
		t.Fatalf("Encode(%s): %.50x, error %d, want %.50x", text(s), h, err, want)
	}
	wantDecoded(t, want, 0, told{s: bare(s), length: len(s.Data), end: len(want)})
	f := slices.Concat([]byte{0xff, 0x80, 1}, want, []byte{0xff, 0, 3})
	wantDecoded(t, f, 3, told{s: bare(s), length: len(s.Data), end: 3 + len(want)})
}

// wantSegment asks for the header that the model tells.
func wantSegment(t *testing.T, s api.Segment) {
	t.Helper()
	wantHeader(t, s, head(s, uint64(len(s.Data))))
}

func wantRefused(t *testing.T, s api.Segment) {
	t.Helper()
	if h, err := segment.Encode(s); segment.Check(s) || err != api.ErrHead || h != nil {
		t.Fatalf("Encode(%s): %.50x, error %d; Check: %v", text(s), h, err, segment.Check(s))
	}
}

func wantDecoded(t *testing.T, f []byte, at int, want told) {
	t.Helper()
	s, length, end, err := segment.Decode(f, at)
	if err != want.err || !same(s, want.s) || length != want.length || end != want.end || err != api.OK && !isNothing(s) {
		t.Fatalf("Decode(%.50x, %d): %s, length %d, place %d, error %d; want %s, %d, %d, %d", f, at, text(s), length, end, err, text(want.s), want.length, want.end, want.err)
	}
}

// wantFault asks for an error at the beginning, and behind other bytes.
func wantFault(t *testing.T, f []byte, want api.Errno) {
	t.Helper()
	wantDecoded(t, f, 0, told{err: want})
	wantDecoded(t, append([]byte{1, 3, 0xff}, f...), 3, told{err: want})
}
