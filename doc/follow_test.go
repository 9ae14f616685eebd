package doc_test

import (
	"bytes"
	"fmt"
	"math"
	"runtime"
	"slices"
	"sync"
	"testing"

	"burin/api"
	"burin/codec"
	"burin/doc"
)

// drawnOn is a document with as many steps as are remembered, and more than that.
func drawnOn(t *testing.T, d *dice) both {
	b := begin(t)
	for range 100 {
		b.draw(d)
	}
	return b
}

// TestEncode: P20.5: what codec.Encode makes of the pages, with options of all kinds; the document stays, and its steps.
func TestEncode(t *testing.T) {
	d := dice(20)
	for range 60 {
		b := drawnOn(t, &d)
		var pages []api.Bitmap
		for _, p := range b.m.pages {
			pages = append(pages, p.plain())
		}
		for range 3 {
			o := d.options()
			want, _ := codec.Encode(pages, o)
			if f, err := b.d.Encode(o); err != api.OK || !bytes.Equal(f, want) {
				t.Fatalf("%+v: %d bytes, error %d, want %d", o, len(f), err, len(want))
			}
		}
		b.wantPages("behind Encode")
		for b.undo() {
			b.wantPages("undone behind Encode")
		}
	}
}

// TestEncodeEmpty: P20.5: a document without pages, a new one and one that was undone.
func TestEncodeEmpty(t *testing.T) {
	d := doc.New()
	for range 2 {
		for mode := range 4 {
			o := api.Options{Mode: mode, Random: mode%2 == 1}
			want, _ := codec.Encode(nil, o)
			if f, err := d.Encode(o); err != api.OK || !bytes.Equal(f, want) || len(f) != 12 {
				t.Errorf("mode %d: %x, error %d, want %x", mode, f, err, want)
			}
		}
		d.NewPage(3, 3)
		d.Undo()
	}
}

// TestNotEncoded: P20.5: what codec.Encode refuses; nothing stands beside its error, and the document stays.
func TestNotEncoded(t *testing.T) {
	b := begin(t)
	b.newPage(1000, 1000)
	for _, o := range []api.Options{{Mode: -1}, {Mode: 4}, {Template: 4}, {Strip: -1}, {Stripe: api.MaxArea + 1}, {Tolerance: math.NaN()}, {Tolerance: -1}, {Mode: math.MinInt, Stripe: math.MinInt}} {
		if f, err := b.d.Encode(o); f != nil || err != api.ErrOption {
			t.Errorf("%+v: %d bytes, error %d", o, len(f), err)
		}
	}
	for i := range api.MaxSymbols + 1 { // pieces of which no two are alike
		x, y := i%31*32, i/31*3
		b.d.Fill(0, x, y, 10+i>>9, 1, 1)
		for k := range 9 {
			b.d.Set(0, x+k, y+1, i>>k&1)
		}
	}
	was := pagesOf(b.d)
	for mode := api.ModeSymbols; mode <= api.ModeRefine; mode++ {
		if f, err := b.d.Encode(api.Options{Mode: mode}); f != nil || err != api.ErrTooBig {
			t.Errorf("mode %d: %d bytes, error %d", mode, len(f), err)
		}
	}
	if !slices.EqualFunc(pagesOf(b.d), was, same) {
		t.Error("the pages were changed")
	}
	if f, err := b.d.Encode(api.Options{Mode: api.ModeSkip}); len(f) == 0 || err != api.OK {
		t.Errorf("%d bytes, error %d", len(f), err)
	}
}

// TestThereAndBack: P20.6 (T1): Open of Encode is a document of the same pages, with any options; it remembers no steps.
func TestThereAndBack(t *testing.T) {
	d := dice(21)
	for range 60 {
		b := drawnOn(t, &d)
		for range d.below(9) {
			b.undo()
		}
		for mode := range 4 {
			o := d.options()
			o.Mode = mode
			f, err := b.d.Encode(o)
			again, fault := doc.Open(f)
			if err != api.OK || fault != api.OK || again.Undo() {
				t.Fatalf("%+v: errors %d, %d", o, err, fault)
			}
			both{t, again, b.m}.wantPages("Open of Encode")
		}
	}
}

// TestDrawnAndUndone: P20.6: whatever is drawn on a document of pages, and undone again, the pages are as they were.
func TestDrawnAndUndone(t *testing.T) {
	d := dice(22)
	for range 100 {
		pages := d.plains(1 + d.below(4))
		b := both{t, opened(t, pages), &model{}}
		was := b.d.Pages()
		for _, p := range pages {
			b.m.pages = append(b.m.pages, unpacked(p))
		}
		for len(b.m.before) < 1+d.below(63) {
			b.draw(&d)
		}
		b.wantPages("drawn")
		for b.undo() {
			continue
		}
		if b.d.Pages() != was || !slices.EqualFunc(pagesOf(b.d), pages, same) {
			t.Fatalf("%v, want %v", pagesOf(b.d), pages)
		}
	}
}

// unpacked are a bitmap's pixels, one by one.
func unpacked(b api.Bitmap) pixels {
	p := blank(b.W, b.H)
	for y, row := range p {
		for x := range row {
			row[x] = int(b.Bits[y*((b.W+63)/64)+x/64] >> (63 - x%64) & 1)
		}
	}
	return p
}

// TestSameAnswers: P20.7 (R6): the same calls make the same document, whatever became of others between.
func TestSameAnswers(t *testing.T) {
	for seed := range 20 {
		d, again := dice(seed), dice(seed)
		one := drawnOn(t, &d)
		other := begin(t)
		for range 100 {
			doc.New().NewPage(1, 1)
			other.draw(&again)
		}
		f, _ := one.d.Encode(api.Options{Mode: api.ModeRefine})
		if g, _ := other.d.Encode(api.Options{Mode: api.ModeRefine}); !bytes.Equal(f, g) {
			t.Fatal("other bytes")
		}
	}
}

// TestApart: P20.7 (R2): a call on a document changes that one alone, though both come of the same bytes.
func TestApart(t *testing.T) {
	d := dice(23)
	for range 40 {
		pages := d.plains(3)
		one, other := opened(t, pages), opened(t, pages)
		for i := range 3 {
			one.Fill(i, 0, 0, 200, 200, 1)
			one.Blit(i, 0, 0, 200, 200, 0, 1, 1, api.OpXor)
			one.NewPage(3, 3)
		}
		if other.Undo() || !slices.EqualFunc(pagesOf(other), pages, same) {
			t.Fatal("the other one was changed")
		}
		for one.Undo() {
			continue
		}
		if !slices.EqualFunc(pagesOf(one), pages, same) {
			t.Fatal("the one was changed by the other")
		}
	}
}

// flood writes over all of a list, behind its length, too.
func flood[T any](l []T, with T) {
	l = l[:cap(l)]
	for i := range l {
		l[i] = with
	}
}

// TestHandedInStays: P20.7 (R2): a file's bytes stay, behind their length, too; the document stays, whatever becomes of them.
func TestHandedInStays(t *testing.T) {
	d := dice(24)
	for range 60 {
		pages := d.plains(1 + d.below(4))
		f, _ := codec.Encode(pages, d.options())
		handed := append(slices.Clone(f), 7, 9)[:len(f)]
		one, err := doc.Open(handed)
		if err != api.OK || !bytes.Equal(handed[:len(f)+2], append(slices.Clone(f), 7, 9)) {
			t.Fatalf("error %d, or the bytes were changed", err)
		}
		flood(handed, 0xa5)
		if !slices.EqualFunc(pagesOf(one), pages, same) {
			t.Fatal("pages changed with the bytes")
		}
		handed = slices.Clone(f)
		one, _ = doc.Open(handed)
		one.Fill(0, 0, 0, 9, 9, 1)
		one.Blit(0, 0, 0, 9, 9, 0, 1, 1, api.OpXnor)
		if !bytes.Equal(handed, f) {
			t.Fatal("bytes changed with the pages")
		}
	}
}

// TestAnswerStays: P20.7 (R2): what was told stays, whatever is drawn; what is drawn on stays, whatever becomes of what was told; no two answers share memory.
func TestAnswerStays(t *testing.T) {
	d := dice(25)
	for range 60 {
		b := drawnOn(t, &d)
		b.newPage(70, 3)
		f, _ := b.d.Encode(api.Options{})
		want := slices.Clone(f)
		told := pagesOf(b.d)
		twice := pagesOf(b.d)
		for i := range told {
			was := api.Bitmap{W: told[i].W, H: told[i].H, Bits: slices.Clone(told[i].Bits)}
			b.fill(i, 0, 0, 300, 300, 1)
			b.blit(i, 0, 0, 300, 300, i, 1, 0, api.OpXor)
			if !same(told[i], was) {
				t.Fatal("an answer changed with the document")
			}
			flood(told[i].Bits, 0x5a5a5a5a5a5a5a5a)
			if !same(twice[i], was) {
				t.Fatal("two answers share memory")
			}
		}
		if !bytes.Equal(f, want) {
			t.Fatal("bytes changed with the document")
		}
		flood(f, 0xa5)
		b.wantPages("behind changed answers")
		for b.undo() {
			b.wantPages("undone behind changed answers")
		}
	}
}

// TestNoPanic: P20.7 (R3): calls end, whatever is handed in, and answer as the chapter says.
func TestNoPanic(t *testing.T) {
	d := dice(26)
	ends := farInts()
	one := func() int {
		if d.below(2) == 0 {
			return d.below(5)
		}
		return ends[d.below(len(ends))]
	}
	for range 40 {
		b := begin(t)
		b.newPage(65, 3)
		for range 500 {
			switch d.below(9) {
			case 0:
				if w, h := one(), one(); w < 1 || h < 1 || w > 2000/h {
					b.newPage(min(w, 1<<21), h)
				}
			case 1, 2:
				b.set(one(), one(), one(), one())
			case 3, 4:
				b.fill(one(), one(), one(), one(), one(), one())
			case 5, 6, 7:
				b.blit(one(), one(), one(), one(), one(), one(), one(), one(), one())
			default:
				b.undo()
			}
		}
		b.wantPages("any numbers")
		for b.undo() {
			b.wantPages("undone")
		}
		doc.Open(bytes.Repeat([]byte{byte(one())}, d.below(40)))
		b.d.Encode(api.Options{Mode: one(), Template: one(), Strip: one(), Stripe: one(), Tolerance: float64(one())})
	}
}

// TestShared: P20.7 (R2): documents are drawn on, and one that nobody draws on is asked, by several at the same time (go test -race tells).
func TestShared(t *testing.T) {
	d := dice(27)
	pages := d.plains(4)
	f, _ := codec.Encode(pages, api.Options{Mode: api.ModeSymbols})
	asked := opened(t, pages)
	var all sync.WaitGroup
	for k := range 6 {
		all.Go(func() {
			one, _ := doc.Open(f)
			one.Fill(k%4, 0, 0, 9, 9, 1)
			one.Undo()
			if !slices.EqualFunc(pagesOf(one), pages, same) || !slices.EqualFunc(pagesOf(asked), pages, same) {
				t.Error("other pages")
			}
			if g, _ := asked.Encode(api.Options{Mode: api.ModeSymbols}); !bytes.Equal(f, g) || asked.Pages() != 4 {
				t.Error("other bytes")
			}
		})
	}
	all.Wait()
}

// inUse is how many bytes nobody has let go.
func inUse() int {
	var m runtime.MemStats
	runtime.GC()
	runtime.GC()
	runtime.ReadMemStats(&m)
	return int(m.HeapAlloc)
}

// TestKept: P20.4, P20.7: what is remembered of a step is no more than what it comes to; of steps that are forgotten or undone, and of pages that are taken back, nothing.
func TestKept(t *testing.T) {
	d := doc.New()
	d.NewPage(1, 1<<20) // a word a row: 8 MiB
	for range 64 {
		d.Undo()
		d.NewPage(1, 1<<20)
	}
	d.NewPage(1024, 1024)
	before := inUse()
	small := func(what string, most int) {
		t.Helper()
		if more := inUse() - before; more > most {
			t.Errorf("%s: %d bytes more are kept", what, more)
		}
		runtime.KeepAlive(d)
	}
	for k, draw := range []func(i int) api.Errno{
		func(i int) api.Errno { return d.Set(0, 0, i, 1) },
		func(i int) api.Errno { return d.Fill(1, i, i, 30, 30, 1) },
		func(i int) api.Errno { return d.Fill(0, -5, i-3, 9, 9, 1) },
		func(i int) api.Errno { return d.Fill(0, 1, 0, 1024, 1<<20, 1) },
		func(i int) api.Errno { return d.Fill(0, math.MinInt, i, math.MaxInt, math.MaxInt, 1) },
		func(i int) api.Errno { return d.Blit(0, 0, 0, math.MaxInt, math.MaxInt, 1, 1000, 1000, api.OpOr) },
		func(i int) api.Errno { return d.Blit(0, 0, 0, 1<<40, 1<<40, 1, 0, 0, api.OpXor) },
		func(i int) api.Errno { return d.Blit(1, 1000, 1000, 1<<40, 1<<40, 0, 0, i, api.OpXor) },
		func(i int) api.Errno { return d.Blit(1, -1000, -1000, 1010, 1010, 1, i, i, api.OpXor) },
		func(i int) api.Errno { return d.Blit(1, i, i, 1010, 1010, 1, -1000, -1000, api.OpXor) },
	} {
		for i := range 64 {
			if err := draw(i); err != api.OK {
				t.Errorf("kind %d: error %d", k, err)
			}
		}
		small(fmt.Sprint("small steps of kind ", k), 1<<20)
	}
	for range 200 {
		d.Fill(0, 0, 0, 1, 1<<16, 1)
	}
	small("64 of 200 steps of 512 KiB", 64<<19+1<<20)
	for d.Undo() {
		continue
	}
	small("steps undone", 1<<20)
	for range 5 {
		d.NewPage(1, 1<<20)
	}
	for range 5 {
		d.Undo()
	}
	small("pages undone", 1<<20)
}
