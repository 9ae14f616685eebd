package context_test

import (
	"slices"
	"testing"

	"burin/api"
	"burin/context"
)

// TestRowsAreAts: P6.4 (T3): a row's numbers are At's, and both those that the chapter says.
func TestRowsAreAts(t *testing.T) {
	d := dice(2)
	for range 150 {
		p := d.drawn(d.wide(), 1+d.below(6))
		b := p.plain()
		for template, places := range templates(t) {
			size, _ := context.Size(template)
			for y := range p {
				want := make([]int, b.W)
				for x := range want {
					want[x] = p.context(places, x, y)
					if want[x] < 0 || want[x] >= size {
						t.Fatalf("template %d has no context %d", template, want[x])
					}
					wantAt(t, b, template, x, y, want[x], api.OK)
				}
				wantRow(t, b, template, y, want, api.OK)
			}
		}
	}
}

// TestHangsOn: P6.4: whatever lies at or behind a pixel, or more than two rows above, its context stays; a place's pixel changes its bit alone.
func TestHangsOn(t *testing.T) {
	d := dice(3)
	for range 12 {
		p := d.drawn(1+d.below(70), 1+d.below(6))
		x, y := d.below(len(p[0])), d.below(len(p))
		for template, places := range templates(t) {
			was := p.context(places, x, y)
			for j := range p {
				for i := range p[j] {
					want := was
					if k := slices.Index(places, place{i - x, j - y}); k >= 0 {
						want ^= 1 << (len(places) - 1 - k)
						if j < y-2 || j > y || j == y && i >= x {
							t.Fatalf("template %d: a place that has not come", template)
						}
					}
					p[j][i] ^= 1
					b := p.plain()
					p[j][i] ^= 1
					wantAt(t, b, template, x, y, want, api.OK)
					if l, _ := context.Row(b, template, y); l[x] != want {
						t.Fatalf("Row(%d, %d): %d at %d, want %d", template, y, l[x], x, want)
					}
				}
			}
		}
	}
}

// TestGrowing: P6.4: of a bitmap whose pixels come one by one each context is that of the whole.
func TestGrowing(t *testing.T) {
	d := dice(4)
	p := d.drawn(67, 4)
	whole := p.plain()
	for template := range 4 {
		grown := blank(67, 4)
		for y := range p {
			row, _ := context.Row(whole, template, y)
			for x, bit := range p[y] {
				wantAt(t, grown.plain(), template, x, y, row[x], api.OK)
				grown[y][x] = bit
			}
		}
	}
}

// TestKeepsNothing: P6.5: a bitmap stays as it is, behind its words, too, and nothing is read there; answers are the caller's own.
func TestKeepsNothing(t *testing.T) {
	d := dice(5)
	for _, w := range []int{1, 63, 64, 65, 128} {
		p := d.drawn(w, 3)
		b := p.plain()
		words := append(slices.Clone(b.Bits), ^uint64(0), ^uint64(0), ^uint64(0), ^uint64(0))
		kept := slices.Clone(words)
		long := api.Bitmap{W: w, H: 3, Bits: words[:len(b.Bits)]}
		for template, places := range templates(t) {
			for y := range 3 {
				row, _ := context.Row(b, template, y)
				again := slices.Clone(row)
				wantRow(t, long, template, y, row, api.OK)
				for x := range row {
					wantAt(t, long, template, x, y, p.context(places, x, y), api.OK)
					row[x] = -1
				}
				wantRow(t, b, template, y, again, api.OK)
			}
			for x := w - 1; x < w+5; x++ {
				wantAt(t, long, template, x, 3, p.context(places, x, 3), api.OK)
				wantAt(t, long, template, x, 4, p.context(places, x, 4), api.OK)
			}
		}
		if !slices.Equal(words, kept) || !slices.Equal(b.Bits, p.plain().Bits) {
			t.Fatalf("a bitmap %d wide was changed", w)
		}
	}
}

// TestLater: P6.5: what was told stays, whatever becomes of the bitmap; the next answer is of what stands then.
func TestLater(t *testing.T) {
	b := black(70, 3).plain()
	row, _ := context.Row(b, 0, 2)
	kept := slices.Clone(row)
	clear(b.Bits)
	if !slices.Equal(row, kept) {
		t.Error("an answer changed with its bitmap")
	}
	wantRow(t, b, 0, 2, make([]int, 70), api.OK)
	wantAt(t, b, 0, 9, 2, 0, api.OK)
}

// TestShortWords: P6.5: fewer words than rows ask for, of any size, are refused without a panic.
func TestShortWords(t *testing.T) {
	for words := range 8 {
		for h := range 8 {
			b := api.Bitmap{W: 65, H: h, Bits: make([]uint64, words)}
			want := api.ErrGenericForm
			if h > 0 && words == 2*h {
				want = api.OK
			}
			for y := -2; y < 9; y++ {
				wantAt(t, b, 1, 64, y, 0, want)
				if _, err := context.Row(b, 1, y); err != want && (want != api.OK || err != api.ErrGenericRow) {
					t.Fatalf("%d words, %d rows, row %d: error %d", words, h, y, err)
				}
			}
		}
	}
}
