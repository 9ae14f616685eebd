package pbm_test

import (
	"bytes"
	"math"
	"runtime"
	"slices"
	"strconv"
	"strings"
	"testing"

	"burin/api"
	"burin/bitmap"
	"burin/pbm"
)

// wantAgain holds that what is written is read as the same bitmap.
func wantAgain(t *testing.T, b api.Bitmap, kind int) {
	t.Helper()
	f, err := pbm.Write(b, kind)
	if err != api.OK {
		t.Fatalf("Write of %d times %d, kind %d: error %d", b.W, b.H, kind, err)
	}
	if got, err := pbm.Read(f); err != api.OK || !bitmap.Equal(got, b) {
		t.Fatalf("%d times %d, kind %d, there and back: error %d", b.W, b.H, kind, err)
	}
}

// TestReadAgain: P3.3: bitmaps of all widths, in both kinds.
func TestReadAgain(t *testing.T) {
	d := dice(3)
	for w := 1; w <= 200; w++ {
		b := plain(d.drawn(w*(1+d.below(5))), w)
		wantAgain(t, b, api.PbmText)
		wantAgain(t, b, api.PbmBytes)
	}
}

// TestGreatBitmaps: P3.3: bitmaps of MaxArea pixels.
func TestGreatBitmaps(t *testing.T) {
	d := dice(4)
	for _, w := range []int{1, 3, 1 << 10, 1<<20 - 1, 1 << 20} {
		b := plain(d.drawn(1<<20/w*w), w)
		wantAgain(t, b, api.PbmText)
		wantAgain(t, b, api.PbmBytes)
	}
}

// TestBitmapsThatMayBe: P3.2: what Read tells may be, whatever the bits are that are no pixels.
func TestBitmapsThatMayBe(t *testing.T) {
	for w := 1; w <= 130; w++ {
		f := "P4 " + strconv.Itoa(w) + " 2 " + strings.Repeat("\xff", (w+7)/8*2)
		b, err := pbm.Read([]byte(f))
		if err != api.OK || !bitmap.Check(b) || !bitmap.Equal(b, plain(strings.Repeat("1", 2*w), w)) {
			t.Fatalf("width %d: %v, error %d", w, b, err)
		}
	}
}

// TestKeepsNothing: P3.4 (R2): what is handed in is neither changed nor kept, what is told is the caller's own.
func TestKeepsNothing(t *testing.T) {
	for kind := range 2 {
		words := []uint64{5 << 61, 3 << 61, 7, 7}
		b := api.Bitmap{W: 3, H: 2, Bits: words[:2]}
		want := modelWrite("101011", 3, kind)
		one, _ := pbm.Write(b, kind)
		two, _ := pbm.Write(b, kind)
		for i := range one {
			one[i] = 'x'
		}
		one = append(one, 'x')
		if !bytes.Equal(two, want) || !slices.Equal(words, []uint64{5 << 61, 3 << 61, 7, 7}) {
			t.Errorf("kind %d: %q; what was handed in is %v", kind, two, words)
		}
		words[0] = 0
		if !bytes.Equal(two, want) {
			t.Errorf("kind %d: an answer went on changing: %q", kind, two)
		}
		first, _ := pbm.Read(two)
		second, _ := pbm.Read(two)
		first.Bits[0] = 0
		first.Bits = append(first.Bits, 1)
		if !bytes.Equal(two, want) {
			t.Errorf("kind %d: what was handed in became %q", kind, two)
		}
		clear(two)
		if !bitmap.Equal(second, plain("101011", 3)) {
			t.Errorf("kind %d: an answer went on changing: %v", kind, second)
		}
	}
}

// TestBehindTheLength: P3.4 (R2): what lies behind a list's length is neither read nor written.
func TestBehindTheLength(t *testing.T) {
	for _, all := range []string{"P1 2 1 10", "P1 2 1 1 0 # end\n", "P4 9 2 \x00\x80\xff\x00", "P4#x\n1 1 \x80"} {
		for n := range len(all) + 1 {
			f := []byte(all)
			want, wantErr := modelRead([]byte(all[:n]))
			b, err := pbm.Read(f[:n])
			if err != wantErr || err == api.OK && !bitmap.Equal(b, want) || string(f) != all {
				t.Errorf("%q of %q: error %d, want %d", all[:n], f, err, wantErr)
			}
		}
	}
}

// TestNil: P3.4 (R2): nil and empty lists are one.
func TestNil(t *testing.T) {
	for _, f := range [][]byte{nil, {}, []byte("P1 1 1 0")[:0]} {
		if b, err := pbm.Read(f); err != api.ErrPbmForm || b.Bits != nil {
			t.Errorf("%v, error %d", b, err)
		}
	}
	wantWrite(t, api.Bitmap{W: 1, H: 1, Bits: []uint64{}}, api.PbmText, nil, api.ErrPbmForm)
}

// TestNoPanic: P3.4 (R3): calls end, whatever is handed in.
func TestNoPanic(t *testing.T) {
	d := dice(5)
	for range 20000 {
		f := []byte([]string{"", "P1", "P4", "P1 3 2 ", "P4 3 2 "}[d.below(5)])
		for range d.below(12) {
			f = append(f, byte(d.below(256)))
		}
		wantModel(t, string(f))
	}
	edges := []int{math.MinInt, -1 << 32, -64, -1, 0, 1, 63, 64, 65, 1 << 20, 1 << 32, 1 << 62, math.MaxInt}
	for _, w := range edges {
		for _, h := range edges {
			for n := range 4 {
				b := api.Bitmap{W: w, H: h, Bits: make([]uint64, n)}
				want := api.ErrPbmForm
				if bitmap.Check(b) {
					want = api.OK
				}
				for kind := range 2 {
					if f, err := pbm.Write(b, kind); err != want || err != api.OK && f != nil {
						t.Errorf("Write of %d times %d, %d words: %d bytes, error %d", w, h, n, len(f), err)
					}
				}
			}
		}
	}
}

// TestLongGaps: P3.4 (R3): gaps and numbers of many bytes take no more than a step each.
func TestLongGaps(t *testing.T) {
	for _, gap := range []string{strings.Repeat(" ", 1<<20), strings.Repeat("#\n", 1<<20), "#" + strings.Repeat("#", 1<<20) + "\n"} {
		wantRead(t, "P1"+gap+strings.Repeat("0", 1<<20)+"2"+gap+"1"+gap+"1"+gap+"0"+gap, plain("10", 2), api.OK)
	}
}

// TestNoMemoryForASize: a reader takes no memory for a size ahead of having seen that it is within its cap.
func TestNoMemoryForASize(t *testing.T) {
	for _, f := range []string{"P1 1 99999999 0", "P4 99999999 1 \x00", "P1 2147483648 2147483648 0", "P4 1048577 1048576 \x00"} {
		var ahead, behind runtime.MemStats
		runtime.ReadMemStats(&ahead)
		_, err := pbm.Read([]byte(f))
		runtime.ReadMemStats(&behind)
		if took := behind.TotalAlloc - ahead.TotalAlloc; err != api.ErrPbmArea || took > 1<<20 {
			t.Errorf("%q: error %d, %d bytes taken", f, err, took)
		}
	}
}
