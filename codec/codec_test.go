package codec_test

import (
	"bytes"
	"encoding/hex"
	"slices"
	"strings"
	"testing"

	"burin/api"
	"burin/bitmap"
	"burin/codec"
	"burin/file"
	"burin/page"
)

func fromHex(s string) []byte {
	f, _ := hex.DecodeString(strings.ReplaceAll(s, " ", ""))
	return f
}

// TestExample: P19.1: the chapter's example, in all modes, there and back.
func TestExample(t *testing.T) {
	for mode := range 4 {
		for random, want := range []string{"42555201 00 00 00 07 00 00 00 00", "42555201 01 00 00 07 00 00 00 00"} {
			for _, pages := range [][]api.Bitmap{nil, {}} {
				o := api.Options{Mode: mode, Stripe: 3, Random: random == 1}
				if f := wantThereAndBack(t, pages, o); !bytes.Equal(f, fromHex(want)) {
					t.Errorf("mode %d: %x, want %s", mode, f, want)
				}
				if best, f := wantSmallest(t, pages, []api.Options{o}); best != 0 || !bytes.Equal(f, fromHex(want)) {
					t.Errorf("mode %d: %d, %x, want %s", mode, best, f, want)
				}
			}
		}
	}
}

// TestByHand: P19.1: two white pages, byte by byte, in both organisations.
func TestByHand(t *testing.T) {
	m, _ := bitmap.New(2, 300)
	pages := []api.Bitmap{raster("..."), m.Plain()}
	for random, want := range []string{
		"42555201 00 02" +
			"00 01 01 00 00 04  03 01 00 00  01 06 01 00 00 00" +
			"02 01 02 00 00 05  02 ac02 00 00  03 06 02 00 00 00" +
			"04 07 00 00 00 00",
		"42555201 01 02" +
			"00 01 01 00 00 04  01 06 01 00 00 00  02 01 02 00 00 05  03 06 02 00 00 00  04 07 00 00 00 00" +
			"03 01 00 00  02 ac02 00 00",
	} {
		for _, mode := range []int{api.ModeSymbols, api.ModeRefine} {
			f, err := codec.Encode(pages, api.Options{Mode: mode, Stripe: 1, Random: random == 1})
			if err != api.OK || !bytes.Equal(f, fromHex(want)) {
				t.Errorf("mode %d: %x, error %d, want %s", mode, f, err, want)
			}
		}
		if got, err := codec.Decode(fromHex(want)); err != api.OK || !samePages(got, pages) {
			t.Errorf("%s: %v, error %d", want, got, err)
		}
	}
}

// TestEncode: P19.1: drawn documents, with options of all kinds: the segments that plan tells, as file writes them.
func TestEncode(t *testing.T) {
	d := dice(1)
	for range 500 {
		wantEncoded(t, d.pages(), d.options())
	}
}

// TestRefused: P19.1: what plan refuses, in its order: options, too many pages, a page that may not be.
func TestRefused(t *testing.T) {
	good := []api.Bitmap{raster("#"), raster("..", "##")}
	many := slices.Repeat(good, api.MaxPages/2+1)
	for _, o := range wrongOptions() {
		for _, pages := range [][]api.Bitmap{nil, good, many, {{}}} {
			wantRefused(t, pages, o, api.ErrOption)
		}
	}
	for mode := range 4 {
		for _, random := range []bool{false, true} {
			o := api.Options{Mode: mode, Template: 3, Random: random}
			wantThereAndBack(t, many[:api.MaxPages], o)
			wantRefused(t, many[:api.MaxPages+1], o, api.ErrPages)
			wantRefused(t, make([]api.Bitmap, api.MaxPages+1), o, api.ErrPages)
			for _, b := range wrongBitmaps() {
				for at := range len(good) + 1 {
					wantRefused(t, slices.Insert(slices.Clone(good), at, b), o, api.ErrPageForm)
				}
			}
		}
	}
}

// TestFaults: P19.1: errors of Decode that file.Read tells, one of each kind.
func TestFaults(t *testing.T) {
	for s, want := range map[string]api.Errno{
		"":                               api.ErrMagic,
		"425552":                         api.ErrMagic,
		"42555202 00 00 0007 00000000":   api.ErrMagic,
		"42555201":                       api.ErrEnd,
		"42555201 00":                    api.ErrEnd,
		"42555201 02 00 0007 00000000":   api.ErrHead,
		"42555201 00 41 0007 00000000":   api.ErrHead,
		"42555201 00 00 0107 00000000":   api.ErrHead,
		"42555201 00 01 0007 00000000":   api.ErrPageOrder,
		"42555201 00 00 0007 000000":     api.ErrEnd,
		"42555201 01 00 0007 0000000000": api.ErrMore,
		"42555201 00 01 0001 01000004 03010000 010601000000 020700000000 ff":                                   api.ErrMore,
		"42555201 00 01 0001 01000004 00010000 010601000000 020700000000":                                      api.ErrPageForm,
		"42555201 00 01 0001 01000008 808004 808004 00 00 010601000000 020700000000":                           api.ErrTooBig,
		"42555201 00 01 0001 010000 7f 03010000":                                                               api.ErrEnd,
		"42555201 00 01 0001 01000006 808040 01 00 01 010601000000 020700000000":                               api.ErrPageOrder,
		"42555201 00 01 0001 01000006 808040 02 00 00 010601000000 020700000000":                               api.ErrTooBig,
		"42555201 00 00 0002 0000 80 00 010700000000":                                                          api.ErrDictForm,
		"42555201 00 01 0002 0000 80 02 0000 010101000004 03010000 0203010100 80 00 030601000000 040700000000": api.ErrTextForm,
	} {
		f := fromHex(s)
		if got := wantDecoded(t, f); got != want {
			t.Errorf("%s: error %d, want %d", s, got, want)
		}
		wantFault(t, f, want)
	}
}

// TestOthersFiles: P19.1: files that Encode never makes are decoded, too: a page whose default is black, on which regions are laid by other operations; a dictionary that nobody uses.
func TestOthersFiles(t *testing.T) {
	sheet, _ := page.EncodeSheet(api.Sheet{W: 4, H: 2, Default: 1})
	hole, _ := page.EncodeRegion(api.Region{X: 1, Op: api.OpXor, Template: 1, Skip: true, B: raster("##.", ".##")})
	off, _ := page.EncodeRegion(api.Region{Op: api.OpAnd, Template: 2, B: raster(".", "#")})
	l := []api.Segment{
		{Number: 0, Kind: api.SegPage, Page: 1, Data: sheet},
		{Number: 1, Kind: api.SegDict, Stay: true, Data: fromHex("0000")},
		{Number: 2, Kind: api.SegGeneric, Page: 1, Data: hole},
		{Number: 3, Kind: api.SegGeneric, Page: 1, Data: off},
		{Number: 4, Kind: api.SegEndPage, Page: 1},
		{Number: 5, Kind: api.SegEndFile},
	}
	for _, random := range []bool{false, true} {
		f, _ := file.Write(l, random)
		if got, err := codec.Decode(f); err != api.OK || !samePages(got, []api.Bitmap{raster("...#", "##..")}) {
			t.Errorf("%v, error %d", got, err)
		}
	}
}

// allOptions are those that there are but for stripes, with a tolerance.
func allOptions(tolerance float64) []api.Options {
	var l []api.Options
	for mode := range 4 {
		for template := range 4 {
			for strip := range 4 {
				l = append(l, api.Options{Mode: mode, Template: template, Strip: strip, Tolerance: tolerance, Random: strip%2 == 1})
			}
		}
	}
	return l
}

// TestSmallest: P19.2: the fewest bytes, wherever in the list the options stand that make them.
func TestSmallest(t *testing.T) {
	d := dice(2)
	places := map[int]int{}
	for range 120 {
		l := d.manyOptions(1 + d.below(6))
		best, _ := wantSmallest(t, d.pages(), l)
		places[best]++
	}
	for at := range 5 {
		if places[at] == 0 {
			t.Errorf("the best was never that at %d", at)
		}
	}
	pages := []api.Bitmap{d.scattered(90, 40, 9), raster("#.###", "#.#.#"), d.scattered(20, 20, 5)}
	l := allOptions(0.25)
	for range 8 {
		best, f := wantSmallest(t, pages, l)
		for i, o := range l {
			g, _ := codec.Encode(pages, o)
			if len(g) < len(f) || len(g) == len(f) && i < best || i == best && !bytes.Equal(f, g) {
				t.Errorf("%+v: %d bytes, the best %d", o, len(g), len(f))
			}
		}
		l = append(l[9:], l[:9]...)
	}
}

// TestFirstOfSmallest: P19.2: of several that make as few bytes the first is told: the organisation makes no byte more or less, nor does what a mode has no use for.
func TestFirstOfSmallest(t *testing.T) {
	d := dice(3)
	small := api.Options{Mode: api.ModeGeneric, Template: 1}
	big := api.Options{Mode: api.ModeGeneric, Template: 1, Stripe: 1}
	pages := []api.Bitmap{d.scattered(60, 30, 6)}
	for _, other := range []api.Options{small, {Template: 1, Random: true}, {Template: 1, Strip: 3}, {Template: 1, Tolerance: 7}} {
		for i, c := range []struct {
			l    []api.Options
			want int
		}{
			{[]api.Options{small, other}, 0},
			{[]api.Options{other, small}, 0},
			{[]api.Options{other, big, small}, 0},
			{[]api.Options{big, small, other}, 1},
			{[]api.Options{big, other, small, big}, 1},
			{[]api.Options{big, big, other}, 2},
			{[]api.Options{big, big}, 0},
		} {
			best, f := wantSmallest(t, pages, c.l)
			if g, _ := codec.Encode(pages, c.l[c.want]); best != c.want || !bytes.Equal(f, g) {
				t.Errorf("%d, %+v: %d, want %d", i, other, best, c.want)
			}
		}
	}
}

// TestNoSmallest: P19.2: without options, or with one that may not be, wherever it stands, ahead of what is wrong with the pages.
func TestNoSmallest(t *testing.T) {
	good := []api.Bitmap{raster("#.#")}
	wrongPages := [][]api.Bitmap{nil, good, {{}}, make([]api.Bitmap, api.MaxPages+1), {counted(api.MaxSymbols + 1)}}
	for _, pages := range wrongPages {
		wantNoSmallest(t, pages, nil, api.ErrOption)
		wantNoSmallest(t, pages, []api.Options{}, api.ErrOption)
	}
	for _, o := range wrongOptions() {
		for _, pages := range wrongPages {
			wantNoSmallest(t, pages, []api.Options{o}, api.ErrOption)
			wantNoSmallest(t, pages, []api.Options{o, {}}, api.ErrOption)
			wantNoSmallest(t, pages, []api.Options{{Mode: api.ModeSymbols}, {}, o}, api.ErrOption)
		}
	}
	for mode := range 4 {
		l := []api.Options{{Mode: mode}, {Mode: 3 - mode}}
		wantNoSmallest(t, make([]api.Bitmap, api.MaxPages+1), l, api.ErrPages)
		for _, b := range wrongBitmaps() {
			wantNoSmallest(t, append(good, b), l, api.ErrPageForm)
		}
	}
}

// TestOneRefused: P19.2: options with which pages are refused refuse all, though others would make a file, ahead of them or behind.
func TestOneRefused(t *testing.T) {
	pages := []api.Bitmap{counted(api.MaxSymbols + 1)}
	generic, skip := api.Options{}, api.Options{Mode: api.ModeSkip}
	symbols, refine := api.Options{Mode: api.ModeSymbols}, api.Options{Mode: api.ModeRefine}
	for _, l := range [][]api.Options{{symbols}, {refine, symbols}, {generic, symbols}, {symbols, generic}, {skip, generic, refine, generic}} {
		wantNoSmallest(t, pages, l, api.ErrTooBig)
	}
	refine.Tolerance = 1
	wantSmallest(t, pages, []api.Options{generic, refine, skip})
}
