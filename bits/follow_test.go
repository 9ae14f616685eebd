package bits_test

import (
	"bytes"
	"fmt"
	"math"
	"testing"

	"burin/api"
	"burin/bits"
)

// TestReadAgain: P1.4: rows of Put, Var and Align, read again, Left falling by what is passed.
func TestReadAgain(t *testing.T) {
	type step struct {
		kind, width int
		n           uint64
		bits        int
	}
	d := dice(1)
	for round := range 300 {
		w := newWriter(t, 1000)
		var steps []step
		for range 60 {
			s := step{kind: d.below(3), width: d.below(65)}
			s.n = d.word() >> (64 - s.width)
			ahead := w.Len()
			switch s.kind {
			case 0:
				wantErr(t, "Put", w.Put(s.n, s.width), api.OK)
			case 1:
				wantErr(t, "Var", w.Var(s.n), api.OK)
			case 2:
				w.Align()
			}
			s.bits = w.Len() - ahead
			steps = append(steps, s)
		}
		r := bits.NewReader(w.Bytes())
		left := 8 * len(w.Bytes())
		for i, s := range steps {
			n, err := s.n, api.OK
			switch s.kind {
			case 0:
				n, err = r.Take(s.width)
			case 1:
				n, err = r.Var()
			case 2:
				err = r.Align()
			}
			wantNumber(t, fmt.Sprintf("round %d, step %d: %v", round, i, s), n, err, s.n, api.OK)
			left -= s.bits
			if r.Left() != left {
				t.Fatalf("round %d, step %d: %d left, want %d", round, i, r.Left(), left)
			}
		}
		wantErr(t, "the last Align", r.Align(), api.OK)
		if r.Left() != 0 {
			t.Fatalf("round %d: %d left behind all", round, r.Left())
		}
	}
}

// TestVarAgain: P1.4: a Var at each bit of a byte.
func TestVarAgain(t *testing.T) {
	for lead := range 8 {
		for _, n := range numbers() {
			w := newWriter(t, 20)
			w.Put(0, lead)
			wantErr(t, "Var", w.Var(n), api.OK)
			r := bits.NewReader(w.Bytes())
			r.Take(lead)
			x, err := r.Var()
			wantNumber(t, fmt.Sprintf("Var at %d", lead), x, err, n, api.OK)
		}
	}
}

// TestWriterAnyCalls: P1.2, P1.5: of any calls what the document's words say; refused ones change nothing.
func TestWriterAnyCalls(t *testing.T) {
	d := dice(2)
	for range 2000 {
		most := d.below(24)
		w := newWriter(t, most)
		text := ""
		for range 30 {
			n := d.word() >> d.below(65)
			width := d.below(70) - 3
			added, want := "", api.OK
			var got api.Errno
			switch d.below(5) {
			case 0, 1:
				if width < 0 || width > 64 {
					want = api.ErrBitsWidth
				} else if width < 64 && n >= 1<<width {
					want = api.ErrBitsValue
				} else {
					added = digits(n, width)
				}
				got = w.Put(n, width)
			case 2, 3:
				added = varText(n)
				got = w.Var(n)
			case 4:
				added = digits(0, (8-len(text)%8)%8)
				w.Align()
			}
			if want == api.OK && len(text)+len(added) > 8*most {
				want, added = api.ErrBitsFull, ""
			}
			text += added
			wantErr(t, "a call", got, want)
			wantWriter(t, "a call", w, text)
		}
	}
}

// TestReaderAnyCalls: P1.3, P1.5: of any bytes and calls what the document's words say; refused ones pass nothing.
func TestReaderAnyCalls(t *testing.T) {
	d := dice(3)
	for range 2000 {
		f := make([]byte, d.below(40))
		for i := range f {
			switch d.below(4) {
			case 0:
				f[i] = byte(d.word())
			case 1:
				f[i] = 0xff
			case 2:
				f[i] = 0x80
			}
		}
		r, m := bits.NewReader(f), &model{text: unpacked(f)}
		for range 30 {
			var n, want uint64
			var err, wantErr api.Errno
			switch d.below(4) {
			case 0, 1:
				width := d.below(30) - 3
				n, err = r.Take(width)
				want, wantErr = m.take(width)
			case 2:
				n, err = r.Var()
				want, wantErr = m.takeVar()
			case 3:
				err, wantErr = r.Align(), m.align()
			}
			wantNumber(t, fmt.Sprintf("a call, of %x", f), n, err, want, wantErr)
			if r.Left() != m.left() {
				t.Fatalf("%d left, want %d, of %x", r.Left(), m.left(), f)
			}
		}
	}
}

// TestReaderKeepsNothing: P1.5: a reader's bytes are its own; what it was handed is not changed.
func TestReaderKeepsNothing(t *testing.T) {
	all := []byte{0xa1, 0x80, 0x01, 0xee, 0xee}
	r := bits.NewReader(all[:3])
	if r.Left() != 24 {
		t.Fatalf("%d left: what lies behind a list's length is not read", r.Left())
	}
	all[0], all[3] = 0, 0
	n, err := r.Take(8)
	wantNumber(t, "a byte that was changed behind", n, err, 0xa1, api.OK)
	n, err = r.Var()
	wantNumber(t, "a Var", n, err, 128, api.OK)
	n, err = r.Take(1)
	wantNumber(t, "behind the end", n, err, 0, api.ErrBitsEnd)
	if !bytes.Equal(all, []byte{0, 0x80, 0x01, 0, 0xee}) {
		t.Errorf("the bytes handed in became %x", all)
	}
}

// TestWriterTellsNewBytes: P1.5: what a writer tells is the caller's own.
func TestWriterTellsNewBytes(t *testing.T) {
	w := newWriter(t, 10)
	w.Put(0x5a, 8)
	w.Put(1, 3)
	one, two := w.Bytes(), w.Bytes()
	one[0], one[1] = 0xff, 0xff
	one = append(one, 0xff)
	if !bytes.Equal(two, []byte{0x5a, 0x20}) {
		t.Errorf("two answers share memory: %x", two)
	}
	wantErr(t, "Put", w.Put(3, 7), api.OK)
	wantWriter(t, "a changed answer", w, "01011010"+"001"+"0000011")
	if !bytes.Equal(two, []byte{0x5a, 0x20}) {
		t.Errorf("an answer went on changing: %x", two)
	}
}

// TestObjectsApart: P1.5: a call on an object changes that object alone.
func TestObjectsApart(t *testing.T) {
	v, w := newWriter(t, 4), newWriter(t, 4)
	v.Put(1, 1)
	w.Put(0, 2)
	v.Var(5)
	wantWriter(t, "one writer", v, "1"+"00000101")
	wantWriter(t, "the other writer", w, "00")
	f := []byte{1, 2}
	q, r := bits.NewReader(f), bits.NewReader(f)
	q.Take(9)
	if q.Left() != 7 || r.Left() != 16 {
		t.Errorf("%d and %d left", q.Left(), r.Left())
	}
}

// TestNoPanic: P1.5: calls end, whatever is handed in.
func TestNoPanic(t *testing.T) {
	ints := []int{math.MinInt, -65, -1, 0, 1, 63, 64, 65, 1 << 32, math.MaxInt}
	words := []uint64{0, 1, 1 << 63, math.MaxUint64}
	for _, most := range ints {
		w, err := bits.NewWriter(most)
		if err != api.OK {
			continue
		}
		for _, width := range ints {
			for _, n := range words {
				w.Put(n, width)
				w.Var(n)
				w.Align()
			}
		}
		if w.Len() > 8*most || len(w.Bytes()) > most {
			t.Errorf("%d bits in %d bytes", w.Len(), most)
		}
	}
	for size := range 12 {
		for _, fill := range []byte{0, 1, 0x80, 0xff} {
			r := bits.NewReader(bytes.Repeat([]byte{fill}, size))
			for _, width := range ints {
				r.Take(width)
				r.Var()
				r.Align()
				if r.Left() < 0 || r.Left() > 8*size {
					t.Fatalf("%d left of %d bytes", r.Left(), size)
				}
			}
		}
	}
}
