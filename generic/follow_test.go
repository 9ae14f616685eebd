package generic_test

import (
	"bytes"
	"slices"
	"sync"
	"testing"

	"burin/api"
	"burin/arith"
	"burin/bitmap"
	"burin/generic"
)

// TestThereAndBack: P7.4 (T1): Decode of Encode is the bitmap.
func TestThereAndBack(t *testing.T) {
	dc := dice(4)
	for w := 1; w <= 140; w++ {
		for template, skip := range bothWays {
			p := dc.drawn(w, 1+dc.below(6), 2+dc.below(20))
			f, err := generic.Encode(p.plain(), template, skip)
			if err != api.OK {
				t.Fatalf("%d times %d: error %d", w, len(p), err)
			}
			wantDecode(t, f, template, skip, p)
		}
	}
}

// TestMany: P7.4: several bitmaps of one coder, of procedures side by side and one in another's contexts, with bare decisions between: what was put is got.
func TestMany(t *testing.T) {
	dc := dice(5)
	type thing struct {
		p              pixels
		base, template int
		skip           bool
	}
	for range 20 {
		contexts := 65537 + dc.below(10000)
		var l []thing
		c := newCoder(t, contexts)
		for range 1 + dc.below(12) {
			x := thing{dc.drawn(dc.wide(), 1+dc.below(9), 2+dc.below(9)), 0, dc.below(4), dc.below(2) == 0}
			x.base = dc.below(contexts - sizes[x.template])
			wantPut(t, c, x.base, x.p.plain(), x.template, x.skip, api.OK)
			c.Put(x.base, len(l)%2)
			l = append(l, x)
		}
		states := c.States()
		f, _ := c.Flush()
		d := newDecoder(t, f, contexts)
		for i, x := range l {
			wantGet(t, d, x.base, x.template, x.skip, x.p)
			if bit, _ := d.Get(x.base); bit != i%2 {
				t.Fatalf("behind bitmap %d: %d", i, bit)
			}
		}
		if !bytes.Equal(d.States(), states) {
			t.Fatal("other states than the coder's")
		}
	}
}

// TestGreatBitmaps: P7.4: bitmaps of MaxArea pixels, of one row and of one column among them.
func TestGreatBitmaps(t *testing.T) {
	for i, s := range [][2]int{{1 << 20, 1}, {1 << 19, 2}, {349525, 3}, {1 << 18, 4}, {1, 1 << 20}, {1024, 1024}} {
		dc := dice(6 + i)
		m, _ := bitmap.New(s[0], s[1])
		for range 5000 {
			m.Fill(dc.below(s[0]), dc.below(s[1]), 1+dc.below(9), 1+dc.below(9), dc.below(2))
		}
		m.Set(s[0]-1, s[1]-1, 1)
		for k := range 2 {
			template, skip := (i+2*k)%4, (i+k)%2 == 0
			f, err := generic.Encode(m.Plain(), template, skip)
			if err != api.OK {
				t.Fatalf("%v, template %d: error %d", s, template, err)
			}
			if b, err := generic.Decode(f, s[0], s[1], template, skip); err != api.OK || !bitmap.Equal(b, m.Plain()) {
				t.Fatalf("%v, template %d, there and back: error %d", s, template, err)
			}
		}
	}
}

// TestAnyBytes: P7.4: over any bytes Decode tells a bitmap, that which the decisions say.
func TestAnyBytes(t *testing.T) {
	dc := dice(20)
	some := [][]byte{nil, {}, {0}, {0xff}, {0xff, 0xff}, {0xff, 0x8f}, {0, 0, 0, 0}}
	for range 60 {
		some = append(some, dc.noise(dc.below(60)))
	}
	for _, f := range some {
		for template, skip := range bothWays {
			w, h := dc.wide(), 1+dc.below(12)
			want := modelGet(newDecoder(t, f, sizes[template]+1), 0, w, h, template, skip)
			wantDecode(t, f, template, skip, want)
			if b, _ := generic.Decode(f, w, h, template, skip); !bitmap.Check(b) {
				t.Fatalf("%x: what may not be", f)
			}
		}
	}
}

// TestSmall: P7.4 (T7): a bitmap whose pixels are all alike takes few bytes, whatever its shape.
func TestSmall(t *testing.T) {
	shapes := [][2]int{{1, 1}, {2, 2}, {1 << 20, 1}, {1, 1 << 20}, {1024, 1024}, {1 << 19, 2}, {2, 1 << 19}, {3, 349525}, {63, 7}, {64, 64}, {65, 65}}
	for n := 1; n <= 40; n += 3 {
		shapes = append(shapes, [2]int{n, n}, [2]int{n, 4}, [2]int{4, n}, [2]int{100 * n, n}, [2]int{n, 100 * n})
	}
	for _, s := range shapes {
		m, _ := bitmap.New(s[0], s[1])
		for colour := range 2 {
			for template, skip := range bothWays {
				f, err := generic.Encode(m.Plain(), template, skip)
				if most := 160 + s[0]*s[1]/32; err != api.OK || len(f) > most {
					t.Errorf("%v, colour %d, template %d, %t: %d bytes, at most %d, error %d", s, colour, template, skip, len(f), most, err)
				}
			}
			m.Invert()
		}
	}
}

// TestKeepsNothing: P7.5 (R2): bitmaps and bytes stay as they are, behind their length, too, and nothing is read there; answers are the caller's own.
func TestKeepsNothing(t *testing.T) {
	dc := dice(21)
	for template, skip := range bothWays {
		p := dc.drawn(67, 9, 3)
		words := append(p.plain().Bits, ^uint64(0), ^uint64(0), 5)
		kept := slices.Clone(words)
		b := api.Bitmap{W: 67, H: 9, Bits: words[:len(words)-3]}
		one, _ := generic.Encode(b, template, skip)
		two, _ := generic.Encode(p.plain(), template, skip)
		c := newCoder(t, sizes[template]+1)
		wantPut(t, c, 0, b, template, skip, api.OK)
		if !slices.Equal(words, kept) || !bytes.Equal(one, two) {
			t.Fatal("a bitmap was changed, or looked behind")
		}
		clear(words)
		clear(one)
		if three, _ := c.Flush(); !bytes.Equal(two, three) {
			t.Fatal("a bitmap was kept")
		}

		long := append(bytes.Clone(two), 0x55, 0xaa)
		got, _ := generic.Decode(long[:len(two)], 67, 9, template, skip)
		if !bitmap.Equal(got, p.plain()) || !bytes.Equal(long[:len(two)], two) || long[len(two)] != 0x55 {
			t.Fatal("bytes were changed, or looked behind")
		}
		clear(long)
		if !bitmap.Equal(got, p.plain()) {
			t.Fatal("an answer changed with its bytes")
		}
		clear(got.Bits)
		got.Bits = append(got.Bits, 1)
		wantDecode(t, two, template, skip, p)
	}
}

// TestOwnAnswers: P7.5 (R2): two bitmaps of one decoder share no memory.
func TestOwnAnswers(t *testing.T) {
	p := raster("#.#.#", "..#..")
	c := newCoder(t, 1025)
	wantPut(t, c, 0, p.plain(), 2, true, api.OK)
	wantPut(t, c, 0, p.plain(), 2, true, api.OK)
	f, _ := c.Flush()
	d := newDecoder(t, f, 1025)
	one, _ := generic.Get(d, 0, 5, 2, 2, true)
	clear(one.Bits[:cap(one.Bits)])
	wantGet(t, d, 0, 2, true, p)
}

// TestShared: P7.5 (R2): one bitmap, handed in by several at the same time, is only read (go test -race tells).
func TestShared(t *testing.T) {
	dc := dice(22)
	b := dc.drawn(130, 40, 3).plain()
	want, _ := generic.Encode(b, 1, true)
	var all sync.WaitGroup
	for range 4 {
		all.Go(func() {
			if f, err := generic.Encode(b, 1, true); err != api.OK || !bytes.Equal(f, want) {
				t.Error("other bytes")
			}
		})
	}
	all.Wait()
}

// TestNoPanic: P7.5 (R3): calls end, whatever is handed in.
func TestNoPanic(t *testing.T) {
	dc := dice(23)
	edges := []int{-1 << 63, -1 << 32, -64, -1, 0, 1, 2, 3, 4, 63, 64, 65, 1 << 20, 1 << 32, 1 << 62, 1<<63 - 1}
	one := func() int { return edges[dc.below(len(edges))] }
	for range 3000 {
		f, _ := arith.New(1 + dc.below(3000))
		d, _ := arith.NewDecoder(dc.noise(dc.below(9)), 1+dc.below(3000))
		b := api.Bitmap{W: one(), H: one(), Bits: make([]uint64, dc.below(5))}
		base, template, skip := one(), one(), dc.below(2) == 0
		if dc.below(2) == 0 {
			base, template = dc.below(2000), 2+dc.below(2)
		}
		if err := generic.Put(f, base, b, template, skip); err == api.OK && !bitmap.Check(b) {
			t.Fatalf("%+v was coded", b)
		}
		if got, err := generic.Get(d, base, b.W, b.H, template, skip); err == api.OK && !bitmap.Check(got) {
			t.Fatalf("%d times %d: what may not be", b.W, b.H)
		}
		generic.Encode(b, template, skip)
		generic.Decode(dc.noise(dc.below(9)), one(), one(), template, skip)
	}
}
