package doc_test

import (
	"math"
	"slices"
	"testing"

	"burin/api"
	"burin/doc"
)

// TestUndo: P20.4, P20.6: drawn, and undone again up to the beginning, step by step.
func TestUndo(t *testing.T) {
	d := dice(10)
	for range 60 {
		b := begin(t)
		for len(b.m.before) < 64 {
			b.draw(&d)
		}
		b.wantPages("drawn")
		for b.undo() {
			b.wantPages("undone")
		}
		if b.d.Pages() != 0 || b.d.Undo() {
			t.Fatal("something is left")
		}
	}
}

// TestUndoBetween: P20.4: steps and undone ones by turns, mostly more than are remembered.
func TestUndoBetween(t *testing.T) {
	d := dice(11)
	for range 20 {
		b := begin(t)
		for range 400 {
			if d.below(3) == 0 {
				b.undo()
			} else {
				b.draw(&d)
			}
			b.wantPages("by turns")
		}
		for b.undo() {
			b.wantPages("undone")
		}
	}
}

// kinds are steps of each kind, and those that change nothing; they stand on three pages.
func kinds(d *doc.Doc) []func() api.Errno {
	return []func() api.Errno{
		func() api.Errno { return d.Set(0, 1, 1, 1) },
		func() api.Errno { return d.Set(0, 1, 1, 0) },
		func() api.Errno { return d.Fill(1, -1, 0, 9, 2, 1) },
		func() api.Errno { return d.Fill(1, 0, 0, 0, 5, 1) },
		func() api.Errno { return d.Fill(1, 0, 0, 5, 0, 1) },
		func() api.Errno { return d.Fill(1, 0, 100, 5, 5, 1) },
		func() api.Errno { return d.Fill(2, math.MinInt, math.MinInt, math.MaxInt, math.MaxInt, 1) },
		func() api.Errno { return d.Blit(0, 0, 0, 3, 3, 1, 2, 0, api.OpXnor) },
		func() api.Errno { return d.Blit(2, 0, 0, 9, 9, 2, 1, 0, api.OpXor) },
		func() api.Errno { return d.Blit(2, 0, 0, 9, 9, 2, 0, 0, api.OpReplace) },
		func() api.Errno { return d.Blit(2, 9, 9, 9, 9, 2, 0, 0, api.OpReplace) },
		func() api.Errno { return d.Blit(2, 0, 0, 9, 9, 1, 9, 9, api.OpReplace) },
		func() api.Errno { return d.Blit(0, 0, 0, 0, 9, 1, 0, 0, api.OpOr) },
		func() api.Errno { _, err := d.NewPage(2, 2); return err },
	}
}

// threePages is a document that remembers no step.
func threePages(t *testing.T) *doc.Doc {
	d := dice(12)
	return opened(t, []api.Bitmap{d.drawn(3, 3).plain(), d.drawn(8, 2).plain(), d.drawn(9, 9).plain()})
}

// TestSteps: P20.4: each call that is done is a step, whether it changes a pixel or not; it is taken back but once.
func TestSteps(t *testing.T) {
	for k := range kinds(nil) {
		d := threePages(t)
		was := pagesOf(d)
		if err := kinds(d)[k](); err != api.OK {
			t.Fatalf("kind %d: error %d", k, err)
		}
		if !d.Undo() || !slices.EqualFunc(pagesOf(d), was, same) {
			t.Errorf("kind %d: %v, want %v", k, pagesOf(d), was)
		}
		if d.Undo() || !slices.EqualFunc(pagesOf(d), was, same) {
			t.Errorf("kind %d: it was undone twice", k)
		}
	}
}

// TestForgotten: P20.4: of more than 64 steps, of whatever kind, the last 64 are remembered, and as many more behind each that is undone.
func TestForgotten(t *testing.T) {
	for k := range kinds(nil) {
		for _, n := range []int{0, 1, 63, 64, 65, 66, 127, 128, 129, 200} {
			d := threePages(t)
			if k == len(kinds(nil))-1 {
				n = min(n, api.MaxPages-3)
			}
			for range n {
				if err := kinds(d)[k](); err != api.OK {
					t.Fatalf("kind %d: error %d", k, err)
				}
			}
			for i := range min(n, 64) {
				if !d.Undo() {
					t.Fatalf("kind %d: %d of %d steps are remembered", k, i, n)
				}
			}
			if d.Undo() {
				t.Fatalf("kind %d: more than 64 of %d steps are remembered", k, n)
			}
		}
	}
}

// TestOldest: P20.4: it is the oldest that is forgotten: the page's beginning, and what was drawn first.
func TestOldest(t *testing.T) {
	for n := 60; n < 70; n++ {
		b := begin(t)
		b.newPage(100, 2)
		for x := range n {
			b.set(0, x, x%2, 1)
		}
		for b.undo() {
			b.wantPages("undone")
		}
		left := max(0, n-64)
		if n < 64 {
			if b.d.Pages() != 0 {
				t.Errorf("%d pixels: the page is left", n)
			}
			continue
		}
		for x := range n {
			if bit := b.m.pages[0][x%2][x]; (bit == 1) != (x < left) {
				t.Errorf("%d pixels: the one at %d is %d", n, x, bit)
			}
		}
	}
}

// refused are calls that are refused, each for something else, by a document of three pages.
func refused(d *doc.Doc) []api.Errno {
	_, area := d.NewPage(0, 1)
	return []api.Errno{
		area,
		d.Set(3, 0, 0, 1), d.Set(0, 9, 0, 1), d.Set(0, 0, -1, 1), d.Set(0, 0, 0, 2),
		d.Fill(-1, 0, 0, 1, 1, 1), d.Fill(0, 0, 0, -1, 1, 1), d.Fill(0, 0, 0, 1, -1, 1), d.Fill(0, 0, 0, 1, 1, -1),
		d.Blit(3, 0, 0, 1, 1, 0, 0, 0, 0), d.Blit(0, 0, 0, 1, 1, -1, 0, 0, 0), d.Blit(0, 0, 0, -1, 1, 1, 0, 0, 0), d.Blit(0, 0, 0, 1, -1, 1, 0, 0, 0), d.Blit(0, 0, 0, 1, 1, 1, 0, 0, 5),
	}
}

// TestRefusedIsNoStep: P20.4: calls that are refused, and those that ask, are no steps, and make none forgotten.
func TestRefusedIsNoStep(t *testing.T) {
	d := threePages(t)
	was := pagesOf(d)
	ask := func() {
		if errs := refused(d); slices.Contains(errs, api.OK) {
			t.Fatalf("%v", errs)
		}
		d.Page(0)
		d.Page(-1)
		d.Encode(api.Options{})
		d.Encode(api.Options{Mode: -1})
	}
	ask()
	if d.Undo() {
		t.Fatal("there is a step")
	}
	for i := range 64 {
		d.Set(2, i%9, i/9, i%2)
		ask()
	}
	for i := range 64 {
		ask()
		if !d.Undo() {
			t.Fatalf("%d steps are remembered", i)
		}
	}
	ask()
	if d.Undo() || !slices.EqualFunc(pagesOf(d), was, same) {
		t.Errorf("%v, want %v", pagesOf(d), was)
	}
}

// TestTooManyIsNoStep: P20.4: nor is a page more than there may be.
func TestTooManyIsNoStep(t *testing.T) {
	b := begin(t)
	for range api.MaxPages + 3 {
		b.newPage(1, 1)
	}
	for range 3 {
		b.undo()
		b.wantPages("a page less")
	}
	for range 5 {
		b.newPage(2, 2)
	}
	b.wantPages("pages again")
	for b.undo() {
		b.wantPages("undone")
	}
}

// TestPageAgain: P20.4: a page that comes behind one that was taken back is white, and of its own size.
func TestPageAgain(t *testing.T) {
	b := begin(t)
	b.newPage(4, 4)
	for i := range 5 {
		b.newPage(3+i, 2)
		b.fill(1, 0, 0, 9, 9, 1)
		b.blit(1, 0, 0, 9, 9, 0, i, 1, api.OpXor)
		for range 3 {
			b.undo()
		}
		b.wantPages("as ahead of it")
		if _, err := b.d.Page(1); err != api.ErrPlace {
			t.Errorf("the page is there: error %d", err)
		}
		b.set(1, 0, 0, 1)
	}
	b.newPage(2, 2)
	b.wantPages("the last one")
}

// TestOpenIsNoStep: P20.4: Open's pages stay; what is drawn on them is undone.
func TestOpenIsNoStep(t *testing.T) {
	dc := dice(13)
	for n := range 8 {
		pages := dc.plains(n)
		d := opened(t, pages)
		if d.Undo() {
			t.Fatal("there is a step")
		}
		for range 70 {
			d.NewPage(2, 2)
		}
		for range 70 - 2*n {
			d.Undo()
		}
		for d.Undo() {
			continue
		}
		if !slices.EqualFunc(pagesOf(d), pages, same) {
			t.Errorf("%v, want %v", pagesOf(d), pages)
		}
	}
}

// TestUndoGreat: P20.4: steps that come to nearly all of the greatest pages.
func TestUndoGreat(t *testing.T) {
	for _, s := range [][2]int{{1 << 20, 1}, {1, 1 << 20}, {1024, 1024}} {
		d := doc.New()
		d.NewPage(s[0], s[1])
		var was []api.Bitmap
		for i := range 12 {
			b, _ := d.Page(0)
			was = append(was, b)
			d.Fill(0, s[0]/7*i%s[0], s[1]/5*i%s[1], math.MaxInt, math.MaxInt, 1-i%2)
			b, _ = d.Page(0)
			was = append(was, b)
			d.Blit(0, i-3, 3-i, s[0], math.MaxInt, 0, 2-i, i, api.OpXor)
		}
		for _, want := range slices.Backward(was) {
			d.Undo()
			if got, _ := d.Page(0); !same(got, want) {
				t.Fatalf("%v: other pixels", s)
			}
		}
	}
}

// TestUndoAtEnds: P20.3, P20.4, P20.6: rectangles that begin, end or are as long as an int can be, across and down, and undone again.
func TestUndoAtEnds(t *testing.T) {
	d := dice(14)
	b := begin(t)
	b.newPage(67, 2)
	b.newPage(2, 67)
	for range 40 {
		b.fill(0, d.below(67), d.below(2), 2, 1, 1)
		b.fill(1, d.below(2), d.below(67), 1, 2, 1)
	}
	thereAndBack := func(what string) {
		t.Helper()
		b.wantPages(what)
		b.undo()
		b.wantPages("undone: " + what)
	}
	for _, at := range farInts() {
		for _, n := range farInts() {
			if n < 0 {
				continue
			}
			b.fill(0, at, 0, n, 2, 1)
			thereAndBack("Fill across")
			b.fill(1, 0, at, 2, n, 1)
			thereAndBack("Fill down")
			for _, to := range farInts() {
				b.blit(0, at, 0, n, 2, 0, to, 0, api.OpXnor)
				thereAndBack("Blit across")
				b.blit(1, 0, at, 2, n, 1, 0, to, api.OpXnor)
				thereAndBack("Blit down")
			}
		}
	}
}
