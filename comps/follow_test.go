package comps_test

import (
	"cmp"
	"slices"
	"sync"
	"testing"

	"burin/api"
	"burin/bitmap"
	"burin/comps"
)

// TestThereAndBack: P10.4: Back of Of, with the same size, is the bitmap.
func TestThereAndBack(t *testing.T) {
	d := dice(3)
	for w := 1; w <= 260; w++ {
		for _, one := range []int{2, 4, 9} {
			b := d.scattered(w, 1+d.below(20), one).plain()
			l, err := comps.Of(b)
			if err != api.OK {
				t.Fatalf("%d times %d: error %d", w, b.H, err)
			}
			wantBack(t, l, b)
		}
	}
}

// TestSmallest: P10.1, P10.2, P10.4: all bitmaps of up to twelve pixels.
func TestSmallest(t *testing.T) {
	for w := 1; w <= 12; w++ {
		for h := 1; h <= 12/w; h++ {
			for n := range 1 << (w * h) {
				p := made(w, h, func(x, y int) bool { return n>>(y*w+x)&1 == 1 })
				wantOf(t, p.plain(), p.pieces())
				wantBack(t, p.pieces(), p.plain())
			}
		}
	}
}

// TestAlone: P10.4: each piece alone is one piece; no two touch.
func TestAlone(t *testing.T) {
	d := dice(4)
	for range 300 {
		w, h := d.wide(), 1+d.below(20)
		l, _ := comps.Of(d.scattered(w, h, 3+d.below(5)).plain())
		owner := blank(w+2, h+2) // of each pixel the number of its piece, from 1 on; a white edge about
		for i, p := range l {
			wantOf(t, p.B, []api.Piece{{B: p.B}})
			m, _ := bitmap.From(p.B)
			for k := range p.B.W * p.B.H {
				x, y := k%p.B.W, k/p.B.W
				if m.Get(x, y) == 1 {
					if owner[p.Y+y+1][p.X+x+1] != 0 {
						t.Fatalf("two pieces have pixel %d %d", p.X+x, p.Y+y)
					}
					owner[p.Y+y+1][p.X+x+1] = i + 1
				}
			}
		}
		for y := 1; y <= h; y++ {
			for x := 1; x <= w; x++ {
				for _, n := range []int{owner[y][x+1], owner[y+1][x-1], owner[y+1][x], owner[y+1][x+1]} {
					if owner[y][x] != 0 && n != 0 && n != owner[y][x] {
						t.Fatalf("pieces %d and %d touch", owner[y][x], n)
					}
				}
			}
		}
	}
}

func mirrored(b api.Bitmap) api.Bitmap {
	m, _ := bitmap.From(b)
	return m.Mirror().Plain()
}

// inOrder sorts pieces by all that they are.
func inOrder(l []api.Piece) []api.Piece {
	return slices.SortedFunc(slices.Values(l), func(p, q api.Piece) int {
		return cmp.Or(cmp.Compare(p.Y, q.Y), cmp.Compare(p.X, q.X), cmp.Compare(p.B.H, q.B.H), cmp.Compare(p.B.W, q.B.W), slices.Compare(p.B.Bits, q.B.Bits))
	})
}

// TestMirrored: P10.4: pieces of a mirrored bitmap are the mirrored pieces.
func TestMirrored(t *testing.T) {
	d := dice(5)
	for range 300 {
		b := d.scattered(d.wide(), 1+d.below(20), 2+d.below(6)).plain()
		l, _ := comps.Of(b)
		for i, p := range l {
			l[i] = api.Piece{X: b.W - p.X - p.B.W, Y: p.Y, B: mirrored(p.B)}
		}
		got, err := comps.Of(mirrored(b))
		if err != api.OK || !samePieces(inOrder(got), inOrder(l)) {
			t.Fatalf("%d times %d: %s, error %d, want %s", b.W, b.H, shown(got), err, shown(l))
		}
	}
}

// TestOfKeepsNothing: P10.5 (R2): a bitmap stays as it is, behind its words, too, and nothing is read there; what was told stays, whatever becomes of it.
func TestOfKeepsNothing(t *testing.T) {
	d := dice(6)
	for _, w := range []int{1, 63, 64, 65, 128} {
		p := d.scattered(w, 7, 4)
		b := p.plain()
		words := append(slices.Clone(b.Bits), ^uint64(0), ^uint64(0), 5)
		kept := slices.Clone(words)
		l, err := comps.Of(api.Bitmap{W: w, H: 7, Bits: words[:len(b.Bits)]})
		if err != api.OK || !slices.Equal(words, kept) {
			t.Fatalf("a bitmap %d wide was changed, or refused: error %d", w, err)
		}
		clear(words)
		if !samePieces(l, p.pieces()) {
			t.Fatalf("%d wide: words behind were read, or an answer changed with its bitmap", w)
		}
	}
}

// TestOwnPieces: P10.5 (R2): no two lists of an answer share memory, behind their length neither; the next answer is new.
func TestOwnPieces(t *testing.T) {
	d := dice(7)
	p := d.scattered(150, 30, 5)
	b := p.plain()
	l, _ := comps.Of(b)
	for i := range l {
		words := append(l[i].B.Bits, 9)
		words = words[:cap(words)]
		for k := range words {
			words[k] = ^uint64(0)
		}
		clear(l[i].B.Bits[:cap(l[i].B.Bits)])
		if !samePieces(l[i+1:], p.pieces()[i+1:]) {
			t.Fatalf("piece %d shares memory with one behind it", i)
		}
	}
	clear(l[:cap(l)])
	wantOf(t, b, p.pieces())
}

// TestBackKeepsNothing: P10.5 (R2): pieces stay as they are, behind their lengths, too, and nothing is read there; what was told stays.
func TestBackKeepsNothing(t *testing.T) {
	d := dice(8)
	for _, w := range []int{1, 64, 65, 130} {
		p := d.scattered(w, 9, 3)
		want, l := p.plain(), p.pieces()
		long := make([]api.Piece, 0, len(l)+1)
		var kept [][]uint64
		for _, q := range l {
			words := append(slices.Clone(q.B.Bits), ^uint64(0), 7)
			kept = append(kept, slices.Clone(words))
			long = append(long, api.Piece{X: q.X, Y: q.Y, B: api.Bitmap{W: q.B.W, H: q.B.H, Bits: words[:len(q.B.Bits)]}})
		}
		behind := append(long, api.Piece{X: 3, Y: 5})[len(long):]
		b, err := comps.Back(long, w, 9)
		if err != api.OK || !bitmap.Equal(b, want) || behind[0].X != 3 || behind[0].Y != 5 || behind[0].B.Bits != nil {
			t.Fatalf("%d wide: error %d, or other pixels", w, err)
		}
		for i, q := range long {
			n := len(q.B.Bits)
			if !samePieces(long[i:i+1], l[i:i+1]) || !slices.Equal(q.B.Bits[:n+2], kept[i]) {
				t.Fatalf("%d wide: piece %d was changed", w, i)
			}
			clear(q.B.Bits[:n+2])
		}
		if !bitmap.Equal(b, want) {
			t.Fatalf("%d wide: an answer changed with its pieces", w)
		}
		clear(b.Bits[:cap(b.Bits)])
		wantBack(t, l, want)
	}
}

// TestShared: P10.5 (R2): one bitmap may stand in several pieces; it is only read, by several at the same time, too (go test -race tells).
func TestShared(t *testing.T) {
	q := raster("#.", "##")
	one := q.plain()
	l := []api.Piece{{B: one}, {X: 3, Y: 1, B: one}, {X: -1, Y: 3, B: one}}
	b := raster("#....", "##.#.", "...##", ".....", "#....").plain()
	want := []api.Piece{{B: one}, {X: 3, Y: 1, B: one}, {Y: 4, B: raster("#").plain()}}
	var all sync.WaitGroup
	for range 4 {
		all.Go(func() {
			if got, err := comps.Back(l, 5, 5); err != api.OK || !bitmap.Equal(got, b) {
				t.Error("other pixels")
			}
			if got, err := comps.Of(b); err != api.OK || !samePieces(got, want) {
				t.Error("other pieces")
			}
		})
	}
	all.Wait()
}

// TestNoPanic: P10.5 (R3): calls end, whatever is handed in; what is answered may be.
func TestNoPanic(t *testing.T) {
	d := dice(9)
	one := func() int { return edges()[d.below(len(edges()))] }
	wild := func() api.Bitmap {
		b := api.Bitmap{W: one(), H: one(), Bits: make([]uint64, d.below(6))}
		for i := range b.Bits {
			b.Bits[i] = uint64(one())
		}
		return b
	}
	for range 5000 {
		b := wild()
		l, err := comps.Of(b)
		if (err == api.OK) != bitmap.Check(b) || err != api.OK && (err != api.ErrCompsForm || l != nil) {
			t.Fatalf("Of(%+v): %s, error %d", b, shown(l), err)
		}
		for range d.below(3) {
			l = append(l, api.Piece{X: one(), Y: one(), B: wild()})
		}
		got, err := comps.Back(l, one(), one())
		if err == api.OK && !bitmap.Check(got) || err != api.OK && (err != api.ErrCompsForm || got.Bits != nil) {
			t.Fatalf("Back(%s): error %d", shown(l), err)
		}
	}
}
