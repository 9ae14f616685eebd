package text_test

import (
	"bytes"
	"math"
	"slices"
	"sync"
	"testing"

	"burin/api"
	"burin/text"
)

// TestSorted: P14.3: by strip, X, Y, then as they stand; whatever the region is.
func TestSorted(t *testing.T) {
	dc := dice(10)
	for range 600 {
		r, _ := dc.region()
		wantSorted(t, r, sortedOf(r))
	}
	edges := []int{math.MinInt, math.MinInt + 1, -9, -8, -1, 0, 1, 7, 8, math.MaxInt - 1, math.MaxInt}
	for _, strip := range []int{0, 1, 2, 3, -1, 4, 5, 63, 64, 65, math.MinInt, math.MaxInt} {
		for range 60 {
			r := api.Text{W: -1, H: 1 << 40, Op: 99, Default: -7, Strip: strip}
			for n := range dc.below(40) {
				r.L = append(r.L, api.Instance{X: edges[dc.below(11)], Y: edges[dc.below(11)], Symbol: n - 5, Differ: n%2 == 0, B: api.Bitmap{W: n, H: -n, Bits: make([]uint64, n%3)}})
			}
			wantSorted(t, r, sortedOf(r))
		}
	}
	wantSorted(t, api.Text{}, nil)
	wantSorted(t, api.Text{L: []api.Instance{}}, nil)
}

// TestSortedByHand: P14.3: each of what they are sorted by, against what stands behind it.
func TestSortedByHand(t *testing.T) {
	for _, x := range []struct {
		strip int
		ys    []int // in order, with X falling
	}{
		{0, []int{-2, -1, 0, 1, 2}}, {1, []int{-3, -1, 0, 2, 4}}, {2, []int{-5, -1, 3, 7, 8}}, {3, []int{-9, -8, 0, 8, 23}},
		{-1, []int{-2, -1, 0, 1, 2}}, {4, []int{-2, -1, 0, 1, 2}}, {64, []int{-2, -1, 0, 1, 2}},
	} {
		r := api.Text{Strip: x.strip}
		for k, y := range x.ys {
			r.L = append(r.L, api.Instance{X: -k, Y: y})
		}
		want := slices.Clone(r.L)
		wantSorted(t, r, want)
		slices.Reverse(r.L)
		wantSorted(t, r, want)
	}
	for _, y := range []int{-8, 0, 8} {
		want := []api.Instance{{X: -1, Y: y + 7}, {X: 0, Y: y}, {X: 0, Y: y + 1, Symbol: 9}, {X: 0, Y: y + 1, Symbol: 2}, {X: 0, Y: y + 7}, {X: 1, Y: y}}
		wantSorted(t, api.Text{Strip: 3, L: []api.Instance{want[5], want[4], want[2], want[1], want[3], want[0]}}, want)
	}
}

// TestDraw: P14.3: drawn regions, against what is drawn pixel by pixel.
func TestDraw(t *testing.T) {
	dc := dice(11)
	for range 600 {
		r, symbols := dc.region()
		wantDraw(t, r, symbols, pictureOf(r, symbols))
	}
}

// TestDrawByHand: P14.3: each operation on each default; what is laid later stands above; instances that differ are laid as they are.
func TestDrawByHand(t *testing.T) {
	row := func(pixels uint64) api.Bitmap { return api.Bitmap{W: 4, H: 1, Bits: []uint64{pixels << 60}} }
	symbols := []api.Bitmap{row(0b0101), row(0b0011)}
	l := []api.Instance{{Symbol: 1}, {}} // as they stand: 1 first
	for _, x := range []struct {
		op, fill int
		want     uint64
	}{
		{api.OpOr, 0, 0b0111}, {api.OpAnd, 0, 0}, {api.OpXor, 0, 0b0110}, {api.OpXnor, 0, 0b0110}, {api.OpReplace, 0, 0b0101},
		{api.OpOr, 1, 0b1111}, {api.OpAnd, 1, 0b0001}, {api.OpXor, 1, 0b1001}, {api.OpXnor, 1, 0b1001}, {api.OpReplace, 1, 0b0101},
	} {
		wantDraw(t, api.Text{X: 3, Y: 9, W: 4, H: 1, Op: x.op, Default: x.fill, L: l}, symbols, row(x.want))
	}
	r := api.Text{W: 4, H: 1, Op: api.OpReplace, Refine: true, L: []api.Instance{{X: 1}, {X: 0, Symbol: 1}, {X: 2, Differ: true, B: row(0b1001)}}}
	wantDraw(t, r, symbols, row(0b0010)) // 0011, then 0 010, then 00 10
	r = api.Text{W: 4, H: 1, Op: api.OpReplace, Strip: 1, L: []api.Instance{{X: 2}, {X: -3, Symbol: 1}, {X: 0, Y: 1}}}
	wantDraw(t, r, symbols, row(0b1001))
	wantDraw(t, api.Text{W: 4, H: 1}, nil, row(0))
	wantDraw(t, api.Text{W: 4, H: 1, Default: 1}, nil, row(0b1111))
	wantDraw(t, api.Text{W: 65, H: 2, Default: 1}, nil, api.Bitmap{W: 65, H: 2, Bits: []uint64{math.MaxUint64, 1 << 63, math.MaxUint64, 1 << 63}})
}

// TestDrawFar: P14.3: what is outside is let go; symbols that are greater than the region.
func TestDrawFar(t *testing.T) {
	dc := dice(12)
	great := dc.drawn(1024, 1024)
	for _, at := range [][2]int{{0, 0}, {-1000, -1000}, {-1023, -1023}, {-1024, 0}, {0, -1024}, {6, 4}, {7, 0}, {0, 5}, {1 << 20, -1 << 20}, {-1 << 20, 1 << 20}} {
		r := api.Text{W: 7, H: 5, Op: api.OpXor, Default: 1, L: []api.Instance{{X: at[0], Y: at[1]}}}
		wantDraw(t, r, []api.Bitmap{great}, pictureOf(r, []api.Bitmap{great}))
	}
	r := api.Text{W: 1024, H: 1024, Op: api.OpXnor, L: []api.Instance{{X: 3}, {Y: -3}}}
	wantDraw(t, r, []api.Bitmap{great}, pictureOf(r, []api.Bitmap{great}))
}

// TestManyOfAGreatSymbol: P14.3: a great symbol in as many instances as may be, hardly any of it inside.
func TestManyOfAGreatSymbol(t *testing.T) {
	r := api.Text{W: 1, H: 1, Op: api.OpXor, L: make([]api.Instance, api.MaxInstances)}
	wantDraw(t, r, []api.Bitmap{spot(1, 1<<20)}, blank(1, 1))
	wantDraw(t, api.Text{W: 1, H: 1, Op: api.OpXor, L: r.L[1:]}, []api.Bitmap{spot(1, 1<<20)}, spot(1, 1))
}

// TestThereAndBack: P14.4: Decode of Encode, with the same symbols, is the region, its instances sorted; it draws the same.
func TestThereAndBack(t *testing.T) {
	dc := dice(13)
	for range 600 {
		r, symbols := dc.region()
		f, err := text.Encode(r, symbols)
		if err != api.OK {
			t.Fatalf("error %d", err)
		}
		got, err := text.Decode(f, symbols)
		if err != api.OK {
			t.Fatalf("error %d", err)
		}
		picture, _ := text.Draw(r, symbols)
		wantDraw(t, got, symbols, picture)
		wantEncode(t, got, symbols, f)
		r.L = text.Sorted(r)
		if !sameText(got, r) {
			t.Fatalf("%v, want %v", got, r)
		}
	}
}

// TestGreat: P14.4: as many symbols, instances and refined pixels as may be, at once.
func TestGreat(t *testing.T) {
	dc := dice(14)
	var symbols []api.Bitmap
	for range api.MaxSymbols {
		symbols = append(symbols, dc.drawn(1+dc.below(16), 1+dc.below(16)))
	}
	for s := range 4 {
		r := api.Text{W: 1024, H: 1024, Op: s, Refine: s%2 == 0, Strip: s}
		room := api.MaxArea
		for range api.MaxInstances {
			i := api.Instance{X: dc.below(1100) - 50, Y: dc.below(1100) - 50, Symbol: dc.below(len(symbols))}
			b := symbols[i.Symbol]
			if r.Refine && b.W*b.H <= room {
				room -= b.W * b.H
				i.Differ, i.B = true, dc.other(b)
			}
			r.L = append(r.L, i)
		}
		f, err := text.Encode(r, symbols)
		if err != api.OK {
			t.Fatalf("error %d", err)
		}
		picture, _ := text.Draw(r, symbols)
		r.L = text.Sorted(r)
		wantDecode(t, f, symbols, r)
		wantDraw(t, r, symbols, picture)
	}
}

// wantAsTold holds Decode against the model's reader, and tells which error it was.
func wantAsTold(t *testing.T, f []byte, symbols []api.Bitmap) api.Errno {
	t.Helper()
	want, err := told(f, symbols)
	if err == api.OK {
		wantDecode(t, f, symbols, want)
	} else {
		wantNotDecoded(t, f, symbols, err)
	}
	return err
}

// TestAnyBytes: P14.2, P14.5: over any bytes Decode tells what the decisions say.
func TestAnyBytes(t *testing.T) {
	dc := dice(15)
	met := map[api.Errno]int{}
	for range 6000 {
		f := dc.noise(dc.below(40))
		if len(f) > 5 && dc.below(4) > 0 {
			copy(f, []byte{0, 1, byte(1 + dc.below(9)), byte(1 + dc.below(9)), byte(dc.below(128)) &^ 4, byte(dc.below(4))})
		}
		met[wantAsTold(t, f, dc.symbols(dc.below(6)))]++
	}
	if met[api.OK] < 10 || met[api.ErrTextForm] < 10 || met[api.ErrTooBig] < 10 {
		t.Errorf("too few of a kind: %v", met)
	}
}

// TestChanged: P14.2, P14.5: bytes of regions, cut or with some of them changed.
func TestChanged(t *testing.T) {
	dc := dice(16)
	met := map[api.Errno]int{}
	for range 4000 {
		r, symbols := dc.region()
		f, _ := text.Encode(r, symbols)
		switch dc.below(3) {
		case 0:
			f = f[:dc.below(len(f)+1)]
		case 1:
			f[dc.below(len(f))] ^= 1 << dc.below(8)
		case 2:
			f[dc.below(len(f))] = dc.noise(1)[0]
		}
		met[wantAsTold(t, f, symbols)]++
	}
	if met[api.OK] < 10 || met[api.ErrTextForm] < 10 || met[api.ErrTooBig] < 10 {
		t.Errorf("too few of a kind: %v", met)
	}
}

// TestChangedItems: P14.2: regions of which a number is another one, or another item stands there: the first fault is told.
func TestChangedItems(t *testing.T) {
	dc := dice(17)
	met := map[api.Errno]int{}
	numbers := []int64{none, 0, 1, 2, 3, 7, 9, -1, -2, -70, 70, 1 << 10, 1<<20 - 1, 1 << 20, 1<<20 + 1, -1 << 20, 1<<31 - 1, 1 << 31, 1<<31 + 1, -1 << 31, -1<<31 - 1, 1 << 32}
	for range 6000 {
		r, symbols := dc.region()
		l := itemsOf(r, symbols)
		for range 1 + dc.below(2) {
			if len(l) == 0 {
				continue
			}
			switch x := &l[dc.below(len(l))]; x.base {
			case pixels:
				x.b = dc.other(x.b)
			case flags:
				x.n = 1 - x.n
			case ids:
				x.n = int64(dc.below(1 << x.width))
			default:
				x.n = numbers[dc.below(len(numbers))]
			}
		}
		count := max(0, len(r.L)+[]int{0, 0, 0, 1, -1}[dc.below(5)])
		met[wantAsTold(t, coded(headOf(r, count), l...), symbols)]++
	}
	if met[api.OK] < 10 || met[api.ErrTextForm] < 10 {
		t.Errorf("too few of a kind: %v", met)
	}
}

// TestChangedGreat: P14.2: where refined pixels are nearly too many, which fault is the first hangs on where it stands.
func TestChangedGreat(t *testing.T) {
	dc := dice(18)
	met := map[api.Errno]int{}
	symbols := []api.Bitmap{blank(600, 600), blank(1024, 1023), spot(1, 1)}
	for range 25 {
		r := api.Text{W: 1, H: 1, Refine: true, Strip: dc.below(4)}
		for range 5 {
			i := api.Instance{X: dc.below(4), Y: dc.below(12), Symbol: dc.below(3), Differ: dc.below(3) > 0}
			if i.Differ {
				i.B = dc.other(symbols[i.Symbol])
			}
			r.L = append(r.L, i)
		}
		l := itemsOf(r, symbols)
		for changes := dc.below(3); changes > 0; changes-- {
			if x := &l[dc.below(len(l))]; x.base < ids {
				x.n = []int64{-1, none, 9, 1 << 21}[dc.below(4)]
			}
		}
		met[wantAsTold(t, coded(headOf(r, 5), l...), symbols)]++
	}
	if met[api.OK] < 3 || met[api.ErrTextForm] < 3 || met[api.ErrTooBig] < 3 {
		t.Errorf("too few of a kind: %v", met)
	}
}

// behind is a copy of words with something behind them.
func behind(words []uint64) []uint64 {
	return append(slices.Clone(words), math.MaxUint64, 7)[:len(words)]
}

// isUntouched holds such a copy against what it is of, behind its length, too.
func isUntouched(words, want []uint64) bool {
	return slices.Equal(words[:len(words)+2], append(slices.Clone(want), math.MaxUint64, 7))
}

// clonedBitmaps is a copy that shares no memory, with something behind each list.
func clonedBitmaps(l []api.Bitmap) []api.Bitmap {
	copies := make([]api.Bitmap, 0, len(l)+1)
	for _, b := range l {
		copies = append(copies, api.Bitmap{W: b.W, H: b.H, Bits: behind(b.Bits)})
	}
	return append(copies, api.Bitmap{W: -3, H: 5})[:len(l)]
}

// cloned is such a copy of a region.
func cloned(r api.Text) api.Text {
	copies := make([]api.Instance, 0, len(r.L)+1)
	for _, i := range r.L {
		i.B.Bits = behind(i.B.Bits)
		copies = append(copies, i)
	}
	r.L = append(copies, api.Instance{X: 77, Y: 1, Symbol: -5})[:len(r.L)]
	return r
}

func wantUntouched(t *testing.T, in []api.Bitmap, symbols []api.Bitmap, e, r api.Text) {
	t.Helper()
	if last := in[:len(in)+1][len(in)]; last.W != -3 || last.H != 5 || last.Bits != nil {
		t.Fatal("what lies behind the symbols was changed")
	}
	for k, b := range in {
		if b.W != symbols[k].W || b.H != symbols[k].H || !isUntouched(b.Bits, symbols[k].Bits) {
			t.Fatalf("symbol %d was changed", k)
		}
	}
	if !sameInstance(e.L[:len(e.L)+1][len(e.L)], api.Instance{X: 77, Y: 1, Symbol: -5}) || !sameText(e, r) {
		t.Fatal("instances were changed, or what lies behind them")
	}
	for k, i := range e.L {
		if !isUntouched(i.B.Bits, r.L[k].B.Bits) {
			t.Fatalf("what lies behind instance %d was changed", k)
		}
	}
}

// TestHandedInStays: P14.5 (R2): what is handed in stays as it is, behind its length, too, and nothing is read there.
func TestHandedInStays(t *testing.T) {
	dc := dice(19)
	for range 200 {
		r, symbols := dc.region()
		f := bytesOf(r, symbols)
		in, e := clonedBitmaps(symbols), cloned(r)
		long := append(slices.Clone(f), 1, 2, 3)
		sorted := r
		sorted.L = sortedOf(r)
		wantEncode(t, e, in, f)
		wantDecode(t, long[:len(f)], in, sorted)
		wantDraw(t, e, in, pictureOf(r, symbols))
		wantSorted(t, e, sorted.L)
		wantUntouched(t, in, symbols, e, r)
		if !bytes.Equal(long, append(slices.Clone(f), 1, 2, 3)) {
			t.Fatal("bytes were changed")
		}
	}
}

// scribble writes over all memory of words.
func scribble(words []uint64) {
	words = words[:cap(words)]
	for i := range words {
		words[i] = 0x5555555555555555
	}
}

func scribbleAll(l []api.Instance) {
	l = l[:cap(l)]
	for i := range l {
		scribble(l[i].B.Bits)
		l[i] = api.Instance{X: 5, Y: 5, Symbol: 5}
	}
}

// TestAnswerStays: P14.5 (R2): what was told stays, whatever becomes of what was handed in; the next answer is new.
func TestAnswerStays(t *testing.T) {
	dc := dice(20)
	for range 200 {
		r, symbols := dc.region()
		sorted := r
		sorted.L = sortedOf(r)
		want := bytesOf(r, symbols)
		in, e := clonedBitmaps(symbols), cloned(r)
		f, _ := text.Encode(e, in)
		got, _ := text.Decode(want, in)
		l := text.Sorted(e)
		b, _ := text.Draw(e, in)
		for _, s := range in {
			scribble(s.Bits)
		}
		scribbleAll(e.L)
		if !bytes.Equal(f, want) || !sameText(got, sorted) || !slices.EqualFunc(l, sorted.L, sameInstance) || !sameBitmap(b, pictureOf(r, symbols)) {
			t.Fatal("an answer changed with what was handed in")
		}
		clear(f[:cap(f)])
		scribbleAll(got.L)
		scribbleAll(l)
		scribble(b.Bits)
		wantEncode(t, r, symbols, want)
		wantDecode(t, want, symbols, sorted)
		wantSorted(t, r, sorted.L)
		wantDraw(t, r, symbols, pictureOf(r, symbols))
	}
}

// TestOwnMemory: P14.5 (R2): no two lists of an answer share memory, behind their lengths neither, though what is handed in does.
func TestOwnMemory(t *testing.T) {
	symbols := blanks(1, 5, 3)
	b := spot(5, 3)
	r := plain(slices.Repeat([]api.Instance{{Differ: true, B: b}}, 20)...)
	f, _ := text.Encode(r, symbols)
	got, _ := text.Decode(f, symbols)
	for _, l := range [][]api.Instance{text.Sorted(r), got.L} {
		for i := range l {
			if !sameBitmap(l[i].B, spot(5, 3)) {
				t.Fatalf("instance %d shares memory with one ahead", i)
			}
			scribble(l[i].B.Bits)
		}
		if len(l) != 20 || !sameBitmap(b, spot(5, 3)) || !sameBitmap(symbols[0], blank(5, 3)) {
			t.Error("too few, or an answer shares memory with what was handed in")
		}
	}
}

// TestShared: P14.5 (R2): what is handed in is only read, by several at the same time, too (go test -race tells).
func TestShared(t *testing.T) {
	dc := dice(21)
	symbols := dc.symbols(3)
	r := plain(api.Instance{X: 5, Symbol: 2, Differ: true, B: dc.other(symbols[2])}, api.Instance{Symbol: 1}, api.Instance{X: 2})
	want := bytesOf(r, symbols)
	var all sync.WaitGroup
	for range 4 {
		all.Go(func() {
			f, _ := text.Encode(r, symbols)
			got, _ := text.Decode(want, symbols)
			b, _ := text.Draw(r, symbols)
			if !bytes.Equal(f, want) || len(got.L) != 3 || b.W != 9 || text.Sorted(r)[0].Symbol != 1 {
				t.Error("other answers")
			}
		})
	}
	all.Wait()
}

// TestNoPanic: P14.5 (R3): calls end, whatever is handed in; beside an error stands nothing.
func TestNoPanic(t *testing.T) {
	dc := dice(22)
	wrong := wrongBitmaps()
	far := []int{math.MinInt, -1 << 32, -1<<20 - 1, 1<<20 + 1, 1 << 32, math.MaxInt}
	for range 3000 {
		r, symbols := dc.region()
		n, b := far[dc.below(len(far))], wrong[dc.below(len(wrong))]
		i := &api.Instance{}
		if len(r.L) > 0 {
			i = &r.L[dc.below(len(r.L))]
		}
		isForm := len(r.L) == 0
		switch dc.below(9) {
		case 0:
			isForm = false
			*[]*int{&r.X, &r.Y, &r.W, &r.H, &r.Op, &r.Default, &r.Strip}[dc.below(7)] = n
		case 1:
			isForm = false
			symbols = append(symbols, b)
		case 2:
			i.X = n
		case 3:
			i.Y = n
		case 4:
			i.Symbol = n
		case 5:
			i.Differ, i.B = true, b
		case 6:
			i.Differ, i.B = false, blank(2, 2)
		case 7:
			if r.Refine {
				isForm = !slices.ContainsFunc(r.L, func(i api.Instance) bool { return i.Differ })
				r.Refine = false
			} else {
				isForm = true
			}
		default:
			isForm = true
		}
		wantSorted(t, r, sortedOf(r))
		if isForm {
			wantBoth(t, r, symbols)
		} else {
			wantRefused(t, r, symbols, api.ErrTextForm)
		}
	}
}
