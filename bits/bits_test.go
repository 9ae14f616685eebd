package bits_test

import (
	"bytes"
	"fmt"
	"math"
	"strings"
	"testing"

	"burin/api"
	"burin/bits"
)

func newWriter(t *testing.T, most int) *bits.Writer {
	t.Helper()
	w, err := bits.NewWriter(most)
	if err != api.OK || w == nil {
		t.Fatalf("NewWriter(%d): %v, %d", most, w, err)
	}
	return w
}

// wantWriter holds what is written against a text of noughts and ones.
func wantWriter(t *testing.T, what string, w *bits.Writer, text string) {
	t.Helper()
	if w.Len() != len(text) || !bytes.Equal(w.Bytes(), packed(text)) {
		t.Fatalf("%s: %d bits, %x; want %d, %x", what, w.Len(), w.Bytes(), len(text), packed(text))
	}
}

func wantErr(t *testing.T, what string, got, want api.Errno) {
	t.Helper()
	if got != want {
		t.Fatalf("%s: error %d, want %d", what, got, want)
	}
}

func wantNumber(t *testing.T, what string, n uint64, err api.Errno, want uint64, wantErr api.Errno) {
	t.Helper()
	if n != want || err != wantErr {
		t.Fatalf("%s: %d, error %d; want %d, error %d", what, n, err, want, wantErr)
	}
}

// TestNewWriter: P1.1.
func TestNewWriter(t *testing.T) {
	for _, most := range []int{math.MinInt, -1, api.MaxBytes + 1, math.MaxInt} {
		if w, err := bits.NewWriter(most); w != nil || err != api.ErrBitsSize {
			t.Errorf("NewWriter(%d): %v, %d", most, w, err)
		}
	}
	for _, most := range []int{0, 1, 7, api.MaxBytes} {
		wantWriter(t, "a new writer", newWriter(t, most), "")
	}
}

// TestWriterHoldsMost: P1.1: a writer takes just as many bytes as it was told.
func TestWriterHoldsMost(t *testing.T) {
	for most := range 20 {
		for width := 1; width <= 64; width++ {
			w := newWriter(t, most)
			text := ""
			for len(text)+width <= 8*most {
				wantErr(t, "Put with room", w.Put(1, width), api.OK)
				text += digits(1, width)
			}
			wantErr(t, "Put without room", w.Put(1, width), api.ErrBitsFull)
			wantWriter(t, "a full writer", w, text)
		}
	}
}

// TestWriterHoldsMaxBytes: P1.1: the greatest bound is kept, too.
func TestWriterHoldsMaxBytes(t *testing.T) {
	w := newWriter(t, api.MaxBytes)
	for range api.MaxBytes / 8 {
		if err := w.Put(math.MaxUint64, 64); err != api.OK {
			t.Fatalf("Put behind %d bits: %d", w.Len(), err)
		}
	}
	wantErr(t, "Put", w.Put(0, 1), api.ErrBitsFull)
	wantErr(t, "Var", w.Var(0), api.ErrBitsFull)
	if b := w.Bytes(); w.Len() != 8*api.MaxBytes || len(b) != api.MaxBytes || b[0] != 255 || b[len(b)-1] != 255 {
		t.Errorf("%d bits, %d bytes", w.Len(), len(b))
	}
}

// TestWriterExamples: P1.2: the chapter's first example.
func TestWriterExamples(t *testing.T) {
	w := newWriter(t, 100)
	wantErr(t, "Put(5, 3)", w.Put(5, 3), api.OK)
	wantErr(t, "Put(1, 1)", w.Put(1, 1), api.OK)
	wantWriter(t, "two numbers", w, "1011")
	w.Align()
	wantWriter(t, "Align", w, "10110000")
	wantErr(t, "Var(300)", w.Var(300), api.OK)
	if !bytes.Equal(w.Bytes(), []byte{0xb0, 0xac, 0x02}) {
		t.Errorf("Var(300): %x", w.Bytes())
	}
	wantErr(t, "Put(4, 2)", w.Put(4, 2), api.ErrBitsValue)
}

// TestPutWidths: P1.2: each width at each place in a byte, the least and the greatest number, and the first that is too great.
func TestPutWidths(t *testing.T) {
	for lead := range 9 {
		for width := 0; width <= 64; width++ {
			most := uint64(math.MaxUint64) >> (64 - width)
			for _, n := range []uint64{0, most, most / 3} {
				w := newWriter(t, 20)
				wantErr(t, "the lead", w.Put(0, lead), api.OK)
				wantErr(t, fmt.Sprintf("Put(%d, %d)", n, width), w.Put(n, width), api.OK)
				wantWriter(t, fmt.Sprintf("Put(%d, %d) at %d", n, width, lead), w, digits(0, lead)+digits(n, width))
				if width < 64 {
					wantErr(t, "a number too great", w.Put(most+1, width), api.ErrBitsValue)
					wantErr(t, "the greatest number", w.Put(math.MaxUint64, width), api.ErrBitsValue)
					wantWriter(t, "a refused Put", w, digits(0, lead)+digits(n, width))
				}
			}
		}
	}
}

// TestPutErrors: P1.2: what is refused, and which error is told first.
func TestPutErrors(t *testing.T) {
	full := newWriter(t, 0)
	room := newWriter(t, 100)
	for _, width := range []int{math.MinInt, -64, -1, 65, 128, math.MaxInt} {
		wantErr(t, "a width that is none", room.Put(0, width), api.ErrBitsWidth)
		wantErr(t, "a width that is none, a great number, no room", full.Put(math.MaxUint64, width), api.ErrBitsWidth)
	}
	wantErr(t, "a number of no bits", room.Put(1, 0), api.ErrBitsValue)
	wantErr(t, "a great number, no room", full.Put(2, 1), api.ErrBitsValue)
	wantErr(t, "no room", full.Put(0, 1), api.ErrBitsFull)
	wantErr(t, "no room for 64 bits", full.Put(math.MaxUint64, 64), api.ErrBitsFull)
	wantErr(t, "nothing, no room", full.Put(0, 0), api.OK)
	wantWriter(t, "refused", full, "")
	wantWriter(t, "refused", room, "")
}

// numbers are those at which a Var grows by a group, and their neighbours.
func numbers() []uint64 {
	l := []uint64{0, 1, 300, math.MaxUint64}
	for shift := 7; shift < 64; shift += 7 {
		l = append(l, 1<<shift-1, 1<<shift, 1<<shift+1)
	}
	return l
}

// TestVarWritten: P1.2: groups wherever the writer stands; all of them or none.
func TestVarWritten(t *testing.T) {
	for lead := range 9 {
		for _, n := range numbers() {
			text := varText(n)
			for most := range 13 {
				w := newWriter(t, most)
				want, ahead := "", digits(1<<lead-1, lead)
				if lead <= 8*most {
					want = ahead
					wantErr(t, "the lead", w.Put(1<<lead-1, lead), api.OK)
				}
				if len(want)+len(text) <= 8*most {
					wantErr(t, fmt.Sprintf("Var(%d)", n), w.Var(n), api.OK)
					want += text
				} else {
					wantErr(t, fmt.Sprintf("Var(%d) in %d bytes", n, most), w.Var(n), api.ErrBitsFull)
				}
				wantWriter(t, fmt.Sprintf("Var(%d) at %d in %d bytes", n, lead, most), w, want)
				// Bits that a refused Var left behind would show up here.
				for w.Put(0, 1) == api.OK {
					want += "0"
				}
				wantWriter(t, "filled up", w, want)
			}
		}
	}
}

// TestWriterAlign: P1.2: up to a whole byte, in a full writer, too; a second one writes nothing.
func TestWriterAlign(t *testing.T) {
	for lead := range 17 {
		w := newWriter(t, (lead+7)/8)
		wantErr(t, "the lead", w.Put(1<<lead-1, lead), api.OK)
		want := digits(1<<lead-1, lead)
		want += strings.Repeat("0", (8-lead%8)%8)
		for range 2 {
			w.Align()
			wantWriter(t, fmt.Sprintf("Align at %d", lead), w, want)
		}
		wantErr(t, "a bit behind", w.Put(0, 1), api.ErrBitsFull)
	}
}

// TestReaderExamples: P1.3: the chapter's second example, and its neighbours.
func TestReaderExamples(t *testing.T) {
	nine := bytes.Repeat([]byte{0xff}, 9)
	zeros := bytes.Repeat([]byte{0x80}, 9)
	behind := func(b []byte, l ...byte) []byte { return append(bytes.Clone(b), l...) }
	for _, c := range []struct {
		b    []byte
		n    uint64
		err  api.Errno
		left int
	}{
		{[]byte{0x80, 0}, 0, api.ErrBitsForm, 16},
		{[]byte{0x80}, 0, api.ErrBitsEnd, 8},
		{behind(nine, 1), math.MaxUint64, api.OK, 0},
		{behind(nine, 2), 0, api.ErrBitsForm, 80},
		{behind(nine, 0xff), 0, api.ErrBitsForm, 80},
		{behind(nine, 0x80), 0, api.ErrBitsForm, 80},
		{behind(nine, 0x81), 0, api.ErrBitsForm, 80},
		{behind(nine, 0), 0, api.ErrBitsForm, 80},
		{behind(nine, 0xff, 0), 0, api.ErrBitsForm, 88},
		{behind(nine, 0x81, 0x01), 0, api.ErrBitsForm, 88},
		{behind(nine, 1, 7), math.MaxUint64, api.OK, 8},
		{behind(zeros, 1), 1 << 63, api.OK, 0},
		{behind(zeros, 0), 0, api.ErrBitsForm, 80},
		{nine, 0, api.ErrBitsEnd, 72},
		{zeros, 0, api.ErrBitsEnd, 72},
		{behind(zeros[:8], 0x7f), 127 << 56, api.OK, 0},
		{behind(zeros[:8], 0), 0, api.ErrBitsForm, 72},
		{nil, 0, api.ErrBitsEnd, 0},
		{[]byte{}, 0, api.ErrBitsEnd, 0},
		{[]byte{0}, 0, api.OK, 0},
		{[]byte{0, 0}, 0, api.OK, 8},
		{[]byte{0x7f}, 127, api.OK, 0},
		{[]byte{0x80, 1}, 128, api.OK, 0},
		{[]byte{0xac, 2}, 300, api.OK, 0},
	} {
		r := bits.NewReader(c.b)
		n, err := r.Var()
		wantNumber(t, fmt.Sprintf("Var of %x", c.b), n, err, c.n, c.err)
		if r.Left() != c.left {
			t.Errorf("Var of %x: %d left, want %d", c.b, r.Left(), c.left)
		}
	}
}

// TestVarRead: P1.3: of any three bytes, from any bit on, what the document's words say.
func TestVarRead(t *testing.T) {
	edges := []byte{0, 1, 2, 0x3f, 0x40, 0x7f, 0x80, 0x81, 0xc0, 0xfe, 0xff}
	for _, a := range edges {
		for b := range 256 {
			for _, c := range edges {
				f := []byte{a, byte(b), c}
				for lead := range 25 {
					r := bits.NewReader(f)
					m := &model{text: unpacked(f)}
					r.Take(lead)
					m.take(lead)
					n, err := r.Var()
					want, wantErr := m.takeVar()
					wantNumber(t, fmt.Sprintf("Var of %x from %d on", f, lead), n, err, want, wantErr)
					if r.Left() != m.left() {
						t.Fatalf("Var of %x from %d on: %d left, want %d", f, lead, r.Left(), m.left())
					}
				}
			}
		}
	}
}

// TestTake: P1.3: each width from each bit on; none behind the end.
func TestTake(t *testing.T) {
	f := []byte{0x96, 0x0f, 0xa5, 0xff, 0x00, 0x3c, 0x81, 0x7e, 0xc3, 0x5a}
	for lead := 0; lead <= 64; lead++ {
		for width := 0; width <= 64; width++ {
			r := bits.NewReader(f)
			m := &model{text: unpacked(f)}
			r.Take(lead)
			m.take(lead)
			for range 2 { // a second one stands behind what was passed
				n, err := r.Take(width)
				want, wantErr := m.take(width)
				wantNumber(t, fmt.Sprintf("Take(%d) from %d on", width, lead), n, err, want, wantErr)
				if r.Left() != m.left() {
					t.Fatalf("Take(%d) from %d on: %d left, want %d", width, lead, r.Left(), m.left())
				}
			}
		}
	}
}

// TestTakeErrors: P1.3: widths that are none are told ahead of the end, and pass nothing.
func TestTakeErrors(t *testing.T) {
	for _, b := range [][]byte{nil, {0xff}, bytes.Repeat([]byte{0xff}, 20)} {
		r := bits.NewReader(b)
		for _, width := range []int{math.MinInt, -64, -1, 65, 128, math.MaxInt} {
			n, err := r.Take(width)
			wantNumber(t, "a width that is none", n, err, 0, api.ErrBitsWidth)
		}
		n, err := r.Take(0)
		wantNumber(t, "no bits", n, err, 0, api.OK)
		if r.Left() != 8*len(b) {
			t.Errorf("%d left, want %d", r.Left(), 8*len(b))
		}
	}
	r := bits.NewReader([]byte{0xff})
	n, err := r.Take(9)
	wantNumber(t, "nine bits of eight", n, err, 0, api.ErrBitsEnd)
	n, err = r.Take(8)
	wantNumber(t, "eight of them", n, err, 255, api.OK)
	n, err = r.Take(1)
	wantNumber(t, "a bit behind the end", n, err, 0, api.ErrBitsEnd)
}

// TestReaderAlign: P1.3: any byte, from any bit of it on.
func TestReaderAlign(t *testing.T) {
	for first := range 256 {
		for lead := range 9 {
			r := bits.NewReader([]byte{byte(first), 0xff})
			r.Take(lead)
			pad := (8 - lead%8) % 8
			want, left := api.OK, 16-lead-pad
			if first&(1<<pad-1) != 0 {
				want, left = api.ErrBitsPad, 16-lead
			}
			for range 2 { // a refused one is refused again; a second one passes nothing
				wantErr(t, fmt.Sprintf("Align of %x at %d", first, lead), r.Align(), want)
				if r.Left() != left {
					t.Fatalf("Align of %x at %d: %d left, want %d", first, lead, r.Left(), left)
				}
			}
		}
	}
	wantErr(t, "Align of nothing", bits.NewReader(nil).Align(), api.OK)
}
