package refine_test

import (
	"bytes"
	"slices"
	"sync"
	"testing"

	"burin/api"
	"burin/arith"
	"burin/bitmap"
	"burin/refine"
)

// TestThereAndBack: P8.4 (T1): Decode of Encode is the bitmap, whatever the reference and the shift.
func TestThereAndBack(t *testing.T) {
	dc := dice(5)
	for w := 1; w <= 140; w++ {
		for range 4 {
			p, s := dc.drawn(w, 1+dc.below(6), 2+dc.below(20)), dc.side()
			f, err := refine.Encode(p.plain(), s.ref.plain(), s.dx, s.dy)
			if err != api.OK {
				t.Fatalf("%d times %d: error %d", w, len(p), err)
			}
			s.wantDecode(t, f, p)
		}
	}
}

// TestMany: P8.4: several bitmaps of one coder, of procedures side by side and one in another's contexts, with bare decisions between, each the next one's reference: what was put is got.
func TestMany(t *testing.T) {
	dc := dice(6)
	type thing struct {
		p    pixels
		s    side
		base int
	}
	for range 20 {
		contexts := size + 1 + dc.below(10000)
		var l []thing
		c := newCoder(t, contexts)
		before := dc.drawn(dc.wide(), 5, 3)
		for range 1 + dc.below(12) {
			x := thing{dc.drawn(dc.wide(), 1+dc.below(9), 2+dc.below(9)), side{before, dc.below(9) - 4, dc.below(9) - 4}, dc.below(contexts - size + 1)}
			x.s.put(t, c, x.base, x.p)
			c.Put(x.base, len(l)%2)
			l, before = append(l, x), x.p
		}
		states := c.States()
		f, _ := c.Flush()
		d := newDecoder(t, f, contexts)
		for i, x := range l {
			x.s.wantGet(t, d, x.base, x.p)
			if bit, _ := d.Get(x.base); bit != i%2 {
				t.Fatalf("behind bitmap %d: %d", i, bit)
			}
		}
		if !bytes.Equal(d.States(), states) {
			t.Fatal("other states than the coder's")
		}
	}
}

// TestGreatBitmaps: P8.4: bitmaps of MaxArea pixels, of one row and of one column among them, each with another as the reference.
func TestGreatBitmaps(t *testing.T) {
	var before api.Bitmap
	for i, s := range [][2]int{{1024, 1024}, {1 << 20, 1}, {1 << 19, 2}, {349525, 3}, {1, 1 << 20}, {2, 1 << 19}} {
		dc := dice(7 + i)
		m, _ := bitmap.New(s[0], s[1])
		for range 5000 {
			m.Fill(dc.below(s[0]), dc.below(s[1]), 1+dc.below(9), 1+dc.below(9), dc.below(2))
		}
		m.Set(s[0]-1, s[1]-1, 1)
		b := m.Plain()
		if i == 0 {
			before = b
		}
		for _, ref := range []api.Bitmap{b, before} {
			f, err := refine.Encode(b, ref, i, -i)
			if err != api.OK {
				t.Fatalf("%v: error %d", s, err)
			}
			if got, err := refine.Decode(f, s[0], s[1], ref, i, -i); err != api.OK || !bitmap.Equal(got, b) {
				t.Fatalf("%v, there and back: error %d", s, err)
			}
		}
		before = b
	}
}

// TestAnyBytes: P8.4: over any bytes Decode tells a bitmap, that which the decisions say.
func TestAnyBytes(t *testing.T) {
	dc := dice(20)
	some := [][]byte{nil, {}, {0}, {0xff}, {0xff, 0xff}, {0xff, 0x8f}, {0, 0, 0, 0}}
	for range 300 {
		some = append(some, dc.noise(dc.below(60)))
	}
	for _, f := range some {
		w, h, s := dc.wide(), 1+dc.below(12), dc.side()
		s.wantDecode(t, f, s.modelGet(newDecoder(t, f, size), 0, w, h))
		if b, _ := refine.Decode(f, w, h, s.ref.plain(), s.dx, s.dy); !bitmap.Check(b) {
			t.Fatalf("%x: what may not be", f)
		}
	}
}

// behind is a bitmap with words behind its length that are no part of it.
func behind(p pixels) (api.Bitmap, []uint64) {
	b := p.plain()
	words := append(b.Bits, ^uint64(0), ^uint64(0), 5)
	return api.Bitmap{W: b.W, H: b.H, Bits: words[:len(b.Bits)]}, words
}

// TestKeepsNothing: P8.5 (R2): bitmaps and bytes stay as they are, behind their length, too, and nothing is read there; answers are the caller's own.
func TestKeepsNothing(t *testing.T) {
	dc := dice(21)
	for range 8 {
		p, s := dc.drawn(67, 9, 3), side{dc.drawn(66, 8, 3), dc.below(5) - 2, dc.below(5) - 2}
		b, words := behind(p)
		ref, others := behind(s.ref)
		kept, keptOthers := slices.Clone(words), slices.Clone(others)
		one, _ := refine.Encode(b, ref, s.dx, s.dy)
		two, _ := refine.Encode(p.plain(), s.ref.plain(), s.dx, s.dy)
		c := newCoder(t, size)
		wantPut(t, c, 0, b, ref, s.dx, s.dy, api.OK)
		long := append(bytes.Clone(two), 0x55, 0xaa)
		got, _ := refine.Decode(long[:len(two)], 67, 9, ref, s.dx, s.dy)
		if !slices.Equal(words, kept) || !slices.Equal(others, keptOthers) || !bytes.Equal(one, two) {
			t.Fatal("a bitmap was changed, or looked behind")
		}
		if !bitmap.Equal(got, p.plain()) || !bytes.Equal(long[:len(two)], two) || long[len(two)] != 0x55 {
			t.Fatal("bytes were changed, or looked behind")
		}
		clear(words)
		clear(others)
		clear(one)
		clear(long)
		if three, _ := c.Flush(); !bytes.Equal(two, three) {
			t.Fatal("a bitmap was kept")
		}
		if !bitmap.Equal(got, p.plain()) {
			t.Fatal("an answer changed with what was handed in")
		}
		clear(got.Bits)
		got.Bits = append(got.Bits, 1)
		s.wantDecode(t, two, p)
	}
}

// TestOwnAnswers: P8.5 (R2): two bitmaps of one decoder share no memory, nor does one with its reference.
func TestOwnAnswers(t *testing.T) {
	p := raster("#.#.#", "..#..")
	s := side{p, 0, 0}
	c := newCoder(t, size)
	s.put(t, c, 0, p)
	s.put(t, c, 0, p)
	f, _ := c.Flush()
	d := newDecoder(t, f, size)
	ref := p.plain()
	one, _ := refine.Get(d, 0, 5, 2, ref, 0, 0)
	clear(one.Bits[:cap(one.Bits)])
	if !bitmap.Equal(ref, p.plain()) {
		t.Fatal("the reference changed with the answer")
	}
	s.wantGet(t, d, 0, p)
}

// TestShared: P8.5 (R2): one bitmap, handed in by several at the same time, also as its own reference, is only read (go test -race tells).
func TestShared(t *testing.T) {
	dc := dice(22)
	b := dc.drawn(130, 40, 3).plain()
	want, _ := refine.Encode(b, b, 1, 0)
	var all sync.WaitGroup
	for range 4 {
		all.Go(func() {
			if f, err := refine.Encode(b, b, 1, 0); err != api.OK || !bytes.Equal(f, want) {
				t.Error("other bytes")
			}
		})
	}
	all.Wait()
}

// TestNoPanic: P8.5 (R3): calls end, whatever is handed in.
func TestNoPanic(t *testing.T) {
	dc := dice(23)
	edges := []int{-1 << 63, -1 << 32, -1 << 20, -64, -1, 0, 1, 2, 3, 4, 63, 64, 65, 1 << 20, 1 << 32, 1 << 62, 1<<63 - 1}
	one := func() int { return edges[dc.below(len(edges))] }
	some := func() api.Bitmap {
		if dc.below(2) == 0 {
			return dc.drawn(1+dc.below(70), 1+dc.below(4), 3).plain()
		}
		return api.Bitmap{W: one(), H: one(), Bits: make([]uint64, dc.below(5))}
	}
	for range 3000 {
		c, _ := arith.New(1 + dc.below(12000))
		d, _ := arith.NewDecoder(dc.noise(dc.below(9)), 1+dc.below(12000))
		b, ref, base, dx, dy := some(), some(), one(), one(), one()
		if dc.below(2) == 0 {
			base = dc.below(2000)
		}
		if err := refine.Put(c, base, b, ref, dx, dy); err == api.OK && !(bitmap.Check(b) && bitmap.Check(ref)) {
			t.Fatalf("%+v, %+v was coded", b, ref)
		}
		if got, err := refine.Get(d, base, b.W, b.H, ref, dx, dy); err == api.OK && !bitmap.Check(got) {
			t.Fatalf("%d times %d: what may not be", b.W, b.H)
		}
		refine.Encode(b, ref, dx, dy)
		refine.Decode(dc.noise(dc.below(9)), one(), one(), ref, dx, dy)
	}
}
