package codec_test

import (
	"bytes"
	"math"
	"slices"
	"sync"
	"testing"

	"burin/api"
	"burin/bitmap"
	"burin/codec"
)

// TestThereAndBack: P19.3 (T1): drawn documents, with options of all kinds, in both organisations.
func TestThereAndBack(t *testing.T) {
	d := dice(10)
	for range 400 {
		pages, o := d.pages(), d.options()
		wantThereAndBack(t, pages, o)
		o.Random = !o.Random
		wantThereAndBack(t, pages, o)
	}
}

// TestAllSizes: P19.3 (T1): small pages of all sizes, and those about whole words.
func TestAllSizes(t *testing.T) {
	d := dice(11)
	for _, w := range []int{1, 2, 3, 4, 5, 6, 7, 8, 9, 62, 63, 64, 65, 127, 128, 129} {
		for h := 1; h <= 20; h++ {
			pages := []api.Bitmap{d.scattered(w, h, 2), d.scattered(h, w, 5), d.scattered(w, h, 1)}
			wantThereAndBack(t, pages, d.options())
		}
	}
}

// TestGreatPages: P19.3 (T1): pages of MaxArea pixels, noise and dirt.
func TestGreatPages(t *testing.T) {
	d := dice(12)
	for _, s := range [][2]int{{1 << 20, 1}, {1, 1 << 20}, {1024, 1024}, {65, 16131}} {
		noise, dirt := d.scattered(s[0], s[1], 2), d.scattered(s[1], s[0], 1000)
		for mode := range 2 {
			wantThereAndBack(t, []api.Bitmap{noise, dirt}, api.Options{Mode: mode, Template: d.below(4), Stripe: d.below(2)})
		}
		if s[0] > 1 && s[1] > 1 { // noise has too many sizes: a piece of nearly all of the page
			m, _ := bitmap.From(noise)
			m.Fill(0, 2, s[0], s[1]-4, 1)
			noise = m.Plain()
		}
		wantThereAndBack(t, []api.Bitmap{dirt, noise}, api.Options{Mode: api.ModeSymbols})
		wantThereAndBack(t, []api.Bitmap{noise, dirt}, api.Options{Mode: api.ModeRefine, Tolerance: inf, Random: true})
	}
}

// dotted is a page of more pieces than MaxInstances, each of one pixel or two.
func (d *dice) dotted() api.Bitmap {
	m, _ := bitmap.New(600, 300)
	for i := range 200 * 150 {
		m.Fill(i%200*3, i/200*2, 1+d.below(2), 1, 1)
	}
	return m.Plain()
}

// nested is a page of pieces one within the other, which have more pixels than MaxArea together: frames, some of them with a pixel more.
func (d *dice) nested() api.Bitmap {
	m, _ := bitmap.New(700, 700)
	for i := range 10 {
		at, side := 3*i, 700-6*i
		m.Fill(at, at, side, side, 1)
		m.Fill(at+1, at+1, side-2, side-2, 0)
		m.Set(at+1, at+1, d.below(2))
	}
	return m.Plain()
}

// TestManyRegions: P19.3 (T1): pages with several regions each, and several dictionaries.
func TestManyRegions(t *testing.T) {
	d := dice(13)
	dotted := []api.Bitmap{d.dotted(), d.dotted()}
	nested := []api.Bitmap{d.nested(), d.nested()}
	for mode := range 4 {
		for _, random := range []bool{false, true} {
			wantThereAndBack(t, dotted, api.Options{Mode: mode, Strip: mode, Tolerance: 0.3, Random: random})
			wantThereAndBack(t, nested, api.Options{Mode: mode, Template: mode, Tolerance: inf, Random: random})
		}
	}
}

// TestTooManyClasses: P19.3: pages that may be are refused where there are more than MaxSymbols classes alone, in symbol modes alone.
func TestTooManyClasses(t *testing.T) {
	most, more, dot := counted(api.MaxSymbols), counted(api.MaxSymbols+1), raster("#")
	for mode := range 4 {
		for _, random := range []bool{false, true} {
			o := api.Options{Mode: mode, Template: 1, Random: random}
			wantThereAndBack(t, []api.Bitmap{most, most}, o)
			if mode < api.ModeSymbols {
				wantThereAndBack(t, []api.Bitmap{more, dot}, o)
			} else {
				wantRefused(t, []api.Bitmap{more}, o, api.ErrTooBig)
				wantRefused(t, []api.Bitmap{dot, most}, o, api.ErrTooBig)
			}
		}
	}
	wantThereAndBack(t, []api.Bitmap{more, dot}, api.Options{Mode: api.ModeRefine, Tolerance: 1})
	wantRefused(t, []api.Bitmap{more, dot}, api.Options{Mode: api.ModeSymbols, Tolerance: 1}, api.ErrTooBig)
}

// wantSmall asks of a page whose pixels are all alike that it is small, white and black, in the generic modes.
func wantSmall(t *testing.T, w, h int) {
	t.Helper()
	m, _ := bitmap.New(w, h)
	for black := range 2 {
		for k := range 16 {
			o := api.Options{Mode: k % 2, Template: k / 2 % 4, Random: k > 7}
			f, err := codec.Encode([]api.Bitmap{m.Plain()}, o)
			if err != api.OK || len(f) > api.FileOverhead+w*h/32 {
				t.Fatalf("%d times %d, %d, %+v: %d bytes, error %d", w, h, black, o, len(f), err)
			}
		}
		m.Invert()
	}
}

// TestSmall: P19.3 (T7): pages whose pixels are all alike are small: small ones of all sizes, and greater ones up to MaxArea.
func TestSmall(t *testing.T) {
	for w := 1; w <= 18; w++ {
		for h := 1; h <= 18; h++ {
			wantSmall(t, w, h)
		}
	}
	for w := 20; w < api.MaxArea; w *= 15 {
		for h := 1; w*h <= api.MaxArea/4; h *= 12 {
			wantSmall(t, w, h)
			wantSmall(t, h, w)
		}
	}
	for _, s := range [][2]int{{api.MaxArea, 1}, {1, api.MaxArea}, {1024, 1024}} {
		wantSmall(t, s[0], s[1])
	}
}

// TestSameBytes: P19.4 (R6): the same pages and options make the same bytes, whatever was encoded and decoded meanwhile.
func TestSameBytes(t *testing.T) {
	d := dice(14)
	for range 60 {
		pages, o := d.pages(), d.options()
		f, _ := codec.Encode(pages, o)
		codec.Decode(d.noise(d.below(90)))
		codec.Smallest(d.pages(), d.manyOptions(2))
		if again, _ := codec.Encode(cloned(pages), o); !bytes.Equal(again, f) {
			t.Fatalf("%+v: other bytes", o)
		}
	}
}

// TestCut: P19.1, P19.4: each beginning of a file is refused, by ErrMagic or ErrEnd; with more behind it is ErrMore.
func TestCut(t *testing.T) {
	d := dice(15)
	for range 25 {
		f, _ := codec.Encode(d.pages(), d.options())
		for n := range f {
			if n < 4 {
				wantFault(t, f[:n], api.ErrMagic)
			} else {
				wantFault(t, f[:n], api.ErrEnd)
			}
		}
		wantFault(t, append(f, d.noise(1+d.below(9))...), api.ErrMore)
	}
}

// TestChangedBytes: P19.1, P19.4 (R3): files with one of their bytes changed, put in or taken away: what file.Read tells.
func TestChangedBytes(t *testing.T) {
	d := dice(16)
	met := map[api.Errno]int{}
	for range 3000 {
		f, _ := codec.Encode(d.pages(), d.options())
		at := d.below(len(f))
		switch d.below(4) {
		case 0:
			f[at] ^= 1 << d.below(8)
		case 1:
			f[at] = d.noise(1)[0]
		case 2:
			f = slices.Insert(f, at, d.noise(1)...)
		case 3:
			f = slices.Delete(f, at, at+1)
		}
		met[wantDecoded(t, f)]++
	}
	for _, err := range []api.Errno{api.OK, api.ErrDictForm, api.ErrTextForm, api.ErrPageForm, api.ErrPageOrder, api.ErrMagic, api.ErrHead, api.ErrEnd, api.ErrMore} {
		if met[err] < 3 {
			t.Errorf("error %d: met %d times only", err, met[err])
		}
	}
	wantDecoded(t, nil)
	wantDecoded(t, []byte{})
}

// wildBitmap is of any numbers; few of them may be.
func (d *dice) wildBitmap() api.Bitmap {
	one := func() int { return farInts()[d.below(len(farInts()))] }
	b := api.Bitmap{W: one(), H: one(), Bits: make([]uint64, d.below(6))}
	for i := range b.Bits {
		b.Bits[i] = uint64(one()) << d.below(64)
	}
	return b
}

// wildOptions are of any numbers; some of them may be.
func (d *dice) wildOptions() api.Options {
	o := d.options()
	one := func() int { return farInts()[d.below(len(farInts()))] }
	switch d.below(9) {
	case 0:
		o.Mode = one()
	case 1:
		o.Template = one()
	case 2:
		o.Strip = one()
	case 3:
		o.Stripe = one()
	case 4:
		o.Tolerance = math.Float64frombits(d.word())
	}
	return o
}

// TestNoPanic: P19.4 (R3): calls end, whatever is handed in; beside an error stands nothing.
func TestNoPanic(t *testing.T) {
	d := dice(17)
	met := map[api.Errno]int{}
	for range 2000 {
		var pages []api.Bitmap
		if d.below(2) == 0 {
			pages = d.pages()
		}
		for range d.below(4) / 2 {
			pages = append(pages, d.wildBitmap())
		}
		if d.below(8) == 0 {
			pages = append(pages, slices.Repeat([]api.Bitmap{raster("#")}, 60+d.below(10))...)
		}
		wantEncoded(t, pages, d.wildOptions())
		var l []api.Options
		for range d.below(4) {
			l = append(l, d.wildOptions())
		}
		wantSmallest(t, pages, l)
		_, _, err := codec.Smallest(pages, l)
		met[err]++
		wantDecoded(t, d.noise(d.below(40)))
		wantDecoded(t, append([]byte("BUR\x01"), d.noise(d.below(40))...))
	}
	for _, err := range []api.Errno{api.OK, api.ErrOption, api.ErrPages, api.ErrPageForm} {
		if met[err] < 9 {
			t.Errorf("error %d: met %d times only", err, met[err])
		}
	}
}

func cloned(pages []api.Bitmap) []api.Bitmap {
	var l []api.Bitmap
	for _, b := range pages {
		l = append(l, api.Bitmap{W: b.W, H: b.H, Bits: slices.Clone(b.Bits)})
	}
	return l
}

// longer tells a list with more behind its length.
func longer[T any](l []T, more ...T) []T {
	return append(slices.Clone(l), more...)[:len(l)]
}

// TestHandedInStays: P19.4 (R2): pages, options and bytes stay as they are, behind their lengths, too, and nothing is read there.
func TestHandedInStays(t *testing.T) {
	d := dice(18)
	for range 60 {
		pages, l := d.pages(), d.manyOptions(3)
		handed := longer(pages, api.Bitmap{W: -3, H: 5})
		for i, b := range pages {
			handed[i].Bits = longer(b.Bits, ^uint64(0), 7)
		}
		options := longer(l, api.Options{Mode: 77})
		f := wantEncoded(t, handed, l[0])
		best, g := wantSmallest(t, handed, options)
		if want, _ := encoded(pages, l[best]); !bytes.Equal(g, want) {
			t.Fatal("other bytes")
		}
		more := longer(f, 3, 9)
		if got, err := codec.Decode(more); err != api.OK || !samePages(got, pages) {
			t.Fatalf("error %d", err)
		}
		if !bytes.Equal(more, f) || !bytes.Equal(more[:len(f)+2][len(f):], []byte{3, 9}) {
			t.Fatal("the file was changed")
		}
		if !slices.Equal(options, l) || options[:4][3] != (api.Options{Mode: 77}) {
			t.Fatal("options were changed")
		}
		if behind := handed[:len(pages)+1][len(pages)]; !samePages(handed, pages) || behind.W != -3 || behind.H != 5 || behind.Bits != nil {
			t.Fatal("pages were changed")
		}
		for _, b := range handed {
			if behind := b.Bits[:len(b.Bits)+2][len(b.Bits):]; behind[0] != ^uint64(0) || behind[1] != 7 {
				t.Fatal("what lies behind a page's words was changed")
			}
		}
	}
}

// flood writes over all of a list, behind its length, too.
func flood[T any](l []T, with T) {
	l = l[:cap(l)]
	for i := range l {
		l[i] = with
	}
}

func floodPages(pages []api.Bitmap) {
	for _, b := range pages {
		flood(b.Bits, 0x5a5a5a5a5a5a5a5a)
	}
	flood(pages, api.Bitmap{})
}

// TestAnswerStays: P19.4 (R2): what was told stays, whatever becomes of what was handed in; and that stays, whatever becomes of what was told; the next answer is new.
func TestAnswerStays(t *testing.T) {
	d := dice(19)
	for range 60 {
		pages, l := d.pages(), d.manyOptions(3)
		best, want, _ := smallest(pages, l)
		handed, options := cloned(pages), slices.Clone(l)
		f, _ := codec.Encode(handed, l[best])
		at, g, _ := codec.Smallest(handed, options)
		floodPages(handed)
		flood(options, api.Options{Mode: 9})
		if at != best || !bytes.Equal(f, want) || !bytes.Equal(g, want) {
			t.Fatal("bytes changed with the pages")
		}
		got, _ := codec.Decode(f)
		flood(f, 0xa5)
		flood(g, 0xa5)
		if !samePages(got, pages) {
			t.Fatal("pages changed with the bytes")
		}
		handed, options = cloned(pages), slices.Clone(l)
		wantEncoded(t, handed, l[best])
		wantSmallest(t, handed, options)
		f = slices.Clone(want)
		got, _ = codec.Decode(f)
		floodPages(got)
		if !bytes.Equal(f, want) || !samePages(handed, pages) || !slices.Equal(options, l) {
			t.Fatal("what was handed in changed with an answer")
		}
		if again, _ := codec.Decode(f); !samePages(again, pages) {
			t.Fatal("an answer changed the next one")
		}
	}
}

// TestOwnMemory: P19.4 (R2): no two pages of an answer share memory, though those of the document are one and the same.
func TestOwnMemory(t *testing.T) {
	b := raster("#.##.###.#", "..........", "#.##.###.#")
	for mode := range 4 {
		f := wantThereAndBack(t, []api.Bitmap{b, b, b}, api.Options{Mode: mode})
		pages, _ := codec.Decode(f)
		for i := range pages {
			want := cloned(pages)
			flood(pages[i].Bits, ^uint64(0))
			for k := range pages {
				if k != i && !slices.Equal(pages[k].Bits, want[k].Bits) {
					t.Fatalf("mode %d: pages %d and %d share memory", mode, i, k)
				}
			}
		}
	}
}

// TestShared: P19.4 (R2): what is handed in is only read, by several at the same time, too (go test -race tells).
func TestShared(t *testing.T) {
	d := dice(20)
	pages := []api.Bitmap{d.scattered(60, 30, 4), d.scattered(60, 30, 4), raster("##")}
	l := d.manyOptions(5)
	best, f, _ := smallest(pages, l)
	var all sync.WaitGroup
	for range 6 {
		all.Go(func() {
			at, g, _ := codec.Smallest(pages, l)
			got, _ := codec.Decode(f)
			if at != best || !bytes.Equal(f, g) || !samePages(got, pages) {
				t.Error("other answers")
			}
		})
	}
	all.Wait()
}
