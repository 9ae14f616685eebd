package dict_test

import (
	"bytes"
	"slices"
	"sync"
	"testing"

	"burin/api"
	"burin/bitmap"
	"burin/dict"
)

// TestThereAndBack: P13.4: Decode of Encode, with the same imported ones, is the dictionary.
func TestThereAndBack(t *testing.T) {
	dc := dice(10)
	for range 500 {
		d, imported := dc.dict()
		f, err := dict.Encode(d, imported)
		if err != api.OK {
			t.Fatalf("error %d", err)
		}
		wantDecode(t, f, imported, d)
	}
}

// TestGreat: P13.4: dictionaries of many symbols and of great ones.
func TestGreat(t *testing.T) {
	dc := dice(11)
	many := api.Dict{Template: 1, Export: dc.flags(4096)}
	for i := range 4096 {
		many.New = append(many.New, dc.drawn(1+i%64/8, 1+i/64))
	}
	for _, d := range []api.Dict{
		many,
		{Template: 0, New: []api.Bitmap{dc.drawn(1024, 1024)}, Export: []bool{true}},
		{Template: 3, New: []api.Bitmap{dc.drawn(1<<19, 1), dc.drawn(1, 1<<19)}, Export: []bool{false, true}},
	} {
		slices.SortFunc(d.New, func(a, b api.Bitmap) int { return (a.H-b.H)<<21 + a.W - b.W })
		f, err := dict.Encode(d, nil)
		if err != api.OK {
			t.Fatalf("%d symbols: error %d", len(d.New), err)
		}
		wantDecode(t, f, nil, d)
	}
}

// TestExported: P13.3: the symbols whose flag is true, the imported ones first.
func TestExported(t *testing.T) {
	dc := dice(12)
	a, b, c := dc.drawn(5, 5), dc.drawn(2, 1), dc.drawn(2, 1)
	d := api.Dict{New: []api.Bitmap{b, c}, Export: []bool{true, false, true}}
	wantExported(t, d, []api.Bitmap{a}, []api.Bitmap{a, c})
	wantExported(t, api.Dict{}, nil, nil)
	for range 300 {
		d, imported := dc.dict()
		var want []api.Bitmap
		for i, is := range d.Export {
			switch {
			case is && i < len(imported):
				want = append(want, imported[i])
			case is:
				want = append(want, d.New[i-len(imported)])
			}
		}
		wantExported(t, d, imported, want)
	}
}

// wantAsTold holds Decode against the model's reader, and tells which error it was.
func wantAsTold(t *testing.T, f []byte, imported int) api.Errno {
	t.Helper()
	want, err := told(f, imported)
	if err == api.OK {
		wantDecode(t, f, blanks(imported, 2, 2), want)
	} else {
		wantNotDecoded(t, f, blanks(imported, 2, 2), err)
	}
	return err
}

// TestAnyBytes: P13.2, P13.5: over any bytes Decode tells what the decisions say.
func TestAnyBytes(t *testing.T) {
	dc := dice(13)
	met := map[api.Errno]int{}
	for range 3000 {
		f := dc.noise(dc.below(30))
		if len(f) > 1 && dc.below(4) > 0 {
			f[0], f[1] = byte(dc.below(4)), byte(dc.below(5))
		}
		met[wantAsTold(t, f, dc.below(3))]++
	}
	if met[api.OK] < 10 || met[api.ErrDictForm] < 10 || met[api.ErrTooBig] < 10 {
		t.Errorf("too few of a kind: %v", met)
	}
}

// TestChanged: P13.2, P13.5: bytes of dictionaries, cut or with some of them changed.
func TestChanged(t *testing.T) {
	dc := dice(14)
	met := map[api.Errno]int{}
	for range 2000 {
		d, imported := dc.dict()
		f, _ := dict.Encode(d, imported)
		switch dc.below(3) {
		case 0:
			f = f[:dc.below(len(f)+1)]
		case 1:
			f[dc.below(len(f))] ^= 1 << dc.below(8)
		case 2:
			f[dc.below(len(f))] = dc.noise(1)[0]
		}
		met[wantAsTold(t, f, len(imported))]++
	}
	if met[api.OK] < 10 || met[api.ErrDictForm] < 10 || met[api.ErrTooBig] < 10 {
		t.Errorf("too few of a kind: %v", met)
	}
}

// TestChangedItems: P13.2: dictionaries of which a number is another one, or another item stands there: the first fault is told.
func TestChangedItems(t *testing.T) {
	dc := dice(15)
	met := map[api.Errno]int{}
	numbers := []int64{none, 0, 1, 2, 3, 9, -1, -2, -70, 70, 1 << 10, 1<<20 - 1, 1 << 20, 1<<20 + 1, -1 << 20, 1<<31 - 1, 1 << 31, 1<<31 + 1, -1 << 31, -1<<31 - 1, 1 << 32}
	for range 3000 {
		d, imported := dc.dict()
		l := itemsOf(d)
		for range 1 + dc.below(2) {
			if len(l) == 0 {
				continue
			}
			x := &l[dc.below(len(l))]
			if x.base == pixels {
				x.b = dc.drawn(1+dc.below(4), 1+dc.below(4))
			} else {
				x.n = numbers[dc.below(len(numbers))]
			}
		}
		count := uint64(max(0, len(d.New)+[]int{0, 0, 0, 1, -1}[dc.below(5)]))
		met[wantAsTold(t, coded(d.Template, count, l...), len(imported))]++
	}
	if met[api.OK] < 10 || met[api.ErrDictForm] < 10 || met[api.ErrTooBig] < 10 {
		t.Errorf("too few of a kind: %v", met)
	}
}

// cloned is a copy that shares no memory, with something behind each list.
func cloned(l []api.Bitmap) []api.Bitmap {
	copies := make([]api.Bitmap, 0, len(l)+1)
	for _, b := range l {
		words := append(slices.Clone(b.Bits), ^uint64(0), 7)
		copies = append(copies, api.Bitmap{W: b.W, H: b.H, Bits: words[:len(b.Bits)]})
	}
	return append(copies, api.Bitmap{W: -3, H: 5})[:len(l)]
}

// wantUntouched holds such a copy against what it is of, behind its lists, too.
func wantUntouched(t *testing.T, l, want []api.Bitmap) {
	t.Helper()
	if behind := l[:len(l)+1][len(l)]; behind.W != -3 || behind.H != 5 || behind.Bits != nil {
		t.Fatal("what lies behind a list was changed")
	}
	for i, b := range l {
		if !bitmap.Equal(b, want[i]) || !slices.Equal(b.Bits[:len(b.Bits)+2][len(b.Bits):], []uint64{^uint64(0), 7}) {
			t.Fatalf("symbol %d was changed", i)
		}
	}
}

// TestHandedInStays: P13.5 (R2): what is handed in stays as it is, behind its length, too, and nothing is read there.
func TestHandedInStays(t *testing.T) {
	dc := dice(16)
	for range 100 {
		d, imported := dc.dict()
		f := coded(d.Template, uint64(len(d.New)), itemsOf(d)...)
		in := cloned(imported)
		flags := append(slices.Clone(d.Export), true, false)
		e := api.Dict{Template: d.Template, New: cloned(d.New), Export: flags[:len(d.Export)]}
		long := append(slices.Clone(f), 1, 2, 3)
		wantEncode(t, e, in, f)
		wantDecode(t, long[:len(f)], in, d)
		dict.Exported(e, in)
		wantUntouched(t, in, imported)
		wantUntouched(t, e.New, d.New)
		if !slices.Equal(flags, append(slices.Clone(d.Export), true, false)) || !bytes.Equal(long, append(slices.Clone(f), 1, 2, 3)) {
			t.Fatal("flags or bytes were changed")
		}
	}
}

// scribble writes over all memory of bitmaps.
func scribble(l []api.Bitmap) {
	for _, b := range l {
		words := b.Bits[:cap(b.Bits)]
		for i := range words {
			words[i] = 0x5555555555555555
		}
	}
}

// TestAnswerStays: P13.5 (R2): what was told stays, whatever becomes of what was handed in; the next answer is new.
func TestAnswerStays(t *testing.T) {
	dc := dice(17)
	for range 100 {
		d, imported := dc.dict()
		all := slices.Concat(imported, d.New)
		e := api.Dict{Template: d.Template, New: cloned(d.New), Export: slices.Clone(d.Export)}
		in := cloned(imported)
		f, _ := dict.Encode(e, in)
		want := slices.Clone(f)
		l, _ := dict.Exported(e, in)
		got, _ := dict.Decode(f, in)
		scribble(in)
		scribble(e.New)
		clear(e.Export)
		if !bytes.Equal(f, want) || !sameDict(got, d) {
			t.Fatal("an answer changed with what was handed in")
		}
		clear(f[:cap(f)])
		for i, is := range d.Export {
			if is && !bitmap.Equal(l[0], all[i]) {
				t.Fatal("an exported symbol changed with what was handed in")
			}
			if is {
				l = l[1:]
			}
		}
		scribble(got.New)
		clear(got.Export[:cap(got.Export)])
		wantEncode(t, d, imported, want)
		wantDecode(t, want, imported, d)
	}
}

// TestOwnMemory: P13.5 (R2): no two lists of an answer share memory, behind their lengths neither, though what is handed in does.
func TestOwnMemory(t *testing.T) {
	l := blanks(30, 5, 3)
	d := api.Dict{Template: 2, New: l[10:], Export: slices.Repeat([]bool{true}, 30)}
	f, _ := dict.Encode(d, l[:10])
	out, _ := dict.Exported(d, l[:10])
	got, _ := dict.Decode(f, l[:10])
	for _, answer := range [][]api.Bitmap{out, got.New} {
		for i := range answer {
			scribble(answer[i : i+1])
			for k, b := range answer[i+1:] {
				if slices.Max(b.Bits) != 0 {
					t.Fatalf("symbols %d and %d share memory", i, i+1+k)
				}
			}
		}
	}
	if len(out) != 30 || len(got.New) != 20 || slices.Max(l[0].Bits) != 0 {
		t.Error("too few, or an answer shares memory with what was handed in")
	}
}

// TestShared: P13.5 (R2): what is handed in is only read, by several at the same time, too (go test -race tells).
func TestShared(t *testing.T) {
	dc := dice(18)
	imported := dc.symbols(2)
	d := api.Dict{Template: 2, New: []api.Bitmap{dc.drawn(4, 4), dc.drawn(70, 4)}, Export: []bool{true, false, true, false}}
	want := coded(2, 2, itemsOf(d)...)
	var all sync.WaitGroup
	for range 4 {
		all.Go(func() {
			f, _ := dict.Encode(d, imported)
			got, _ := dict.Decode(want, imported)
			l, _ := dict.Exported(d, imported)
			if !bytes.Equal(f, want) || !sameDict(got, d) || len(l) != 2 {
				t.Error("other answers")
			}
		})
	}
	all.Wait()
}

// TestNoPanic: P13.5 (R3): calls end, whatever is handed in; beside an error stands nothing.
func TestNoPanic(t *testing.T) {
	dc := dice(19)
	wrong := wrongBitmaps()
	for range 3000 {
		d, imported := dc.dict()
		isForm := true
		switch dc.below(6) {
		case 0:
			d.Template += []int{4, -4, 1 << 32, -1 << 63}[dc.below(4)]
			isForm = false
		case 1:
			d.Export = append(d.Export, true)
			isForm = false
		case 2:
			d.New = append(d.New, wrong[dc.below(len(wrong))])
			d.Export = append(d.Export, true)
			isForm = false
		case 3:
			imported = append(imported, wrong[dc.below(len(wrong))])
			d.Export = append(d.Export, true)
			isForm = false
		case 4:
			slices.Reverse(d.New)
			isForm = slices.IsSortedFunc(d.New, func(a, b api.Bitmap) int { return 1000*(a.H-b.H) + a.W - b.W })
		}
		if !isForm {
			wantRefused(t, d, imported, api.ErrDictForm)
		} else {
			wantEncode(t, d, imported, coded(d.Template, uint64(len(d.New)), itemsOf(d)...))
		}
	}
}
