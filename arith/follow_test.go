package arith_test

import (
	"bytes"
	"slices"
	"testing"

	"burin/api"
)

// TestThereAndBack: P4.4: the decoder tells the coder's decisions; behind each of them both tables are the same.
func TestThereAndBack(t *testing.T) {
	dc := dice(3)
	for range 60 {
		n, skew := 1+dc.below(9), []int{0, 1, 3, 20, 500}[dc.below(5)]
		l := dc.decisions(dc.below(3000), n, skew)
		c := newCoder(t, n)
		var states [][]byte
		for _, x := range l {
			wantPut(t, c, x.context, x.bit, api.OK)
			states = append(states, c.States())
		}
		b, _ := c.Flush()
		d := newDecoder(t, b, n)
		for i, x := range l {
			wantGet(t, d, x.context, x.bit, api.OK)
			wantStates(t, d.States(), states[i])
		}
	}
}

// TestNoMarkers: P4.4: no byte above 8f stands behind an ff, and the last one is no ff; carries run into ff both ways.
func TestNoMarkers(t *testing.T) {
	dc, ends, stuffed, carried := dice(4), 0, 0, 0
	for round := range 6000 {
		c, m := newCoder(t, 4), newModelCoder(4)
		for _, x := range dc.decisions(dc.below(400), 4, round%7) {
			wantPut(t, c, x.context, x.bit, api.OK)
			m.put(x.context, x.bit)
		}
		want := m.flush()
		wantFlush(t, c, want, api.OK)
		for i := 1; i < len(want); i++ {
			if want[i-1] == 0xff && want[i] > 0x8f {
				t.Fatalf("a marker at %d of %x", i, want)
			}
			if want[i-1] == 0xff {
				stuffed++
				carried += int(want[i] >> 7)
			}
		}
		if len(want) > 0 && want[len(want)-1] == 0xff {
			t.Fatalf("the last byte of %x", want)
		}
		ends += len(m.out) - len(want)
	}
	if ends == 0 || stuffed == 0 || carried == 0 {
		t.Errorf("%d ends let go, %d bytes behind an ff, %d of them with a carry: not all of it was tried", ends, stuffed, carried)
	}
}

// TestAnyBytes: P4.4: over any bytes a decoder tells the bits of the chapter's words, far behind their end, too.
func TestAnyBytes(t *testing.T) {
	dc := dice(5)
	some := [][]byte{nil, {}, {0}, {0xff}, {0xff, 0xff}, {0xff, 0x8f}, {0xff, 0x90}, {0xff, 0x8f, 0xff, 0x8f, 0xff, 0x8f}, {0, 0xff}, {0xfe, 0xff, 0x8f}}
	for range 500 {
		some = append(some, dc.noise(dc.below(40)))
	}
	for _, b := range some {
		n := 1 + dc.below(3)
		d, m := newDecoder(t, b, n), newModelDecoder(b, n)
		for range 1500 {
			cx := dc.below(20) - 10
			wantGet(t, d, cx, m.get(cx), api.OK)
		}
		wantStates(t, d.States(), m.told())
	}
}

// TestSmall: P4.4: decisions that are alike take few bytes.
func TestSmall(t *testing.T) {
	for bit := range 2 {
		c := newCoder(t, 1)
		for range 1 << 20 {
			wantPut(t, c, 0, bit, api.OK)
		}
		if b, _ := c.Flush(); len(b) > 32 {
			t.Errorf("a million of %d: %d bytes", bit, len(b))
		}
	}
}

// TestKeepsNothing: P4.5 (R2): what is handed in is neither changed nor kept, what is told is the caller's own.
func TestKeepsNothing(t *testing.T) {
	dc := dice(6)
	l := dc.decisions(600, 3, 2)
	c, m := newCoder(t, 3), newModelCoder(3)
	for _, x := range l {
		c.Put(x.context, x.bit)
		m.put(x.context, x.bit)
		clear(c.States())
		_ = append(c.States(), 7)
	}
	wantStates(t, c.States(), m.told())
	b, _ := c.Flush()
	if want := m.flush(); !bytes.Equal(b, want) {
		t.Fatalf("%x, want %x", b, want)
	}
	handed := append(slices.Clone(b), 1, 2, 3)
	d := newDecoder(t, handed[:len(b)], 3)
	other := newDecoder(t, handed[:len(b)], 3)
	for i, x := range l {
		wantGet(t, d, x.context, x.bit, api.OK)
		if i == 5 {
			clear(d.States())
			clear(handed[:4])
		}
	}
	if !bytes.Equal(handed, append(append(make([]byte, 4), b[4:]...), 1, 2, 3)) {
		t.Errorf("what was handed in became %x", handed)
	}
	wantStates(t, d.States(), c.States())
	wantStates(t, other.States(), []byte{0, 0, 0})
	clear(b)
	wantFlush(t, c, nil, api.ErrArithDone)
}

// TestBehindTheLength: P4.5 (R2): what lies behind a list's length is neither read nor written.
func TestBehindTheLength(t *testing.T) {
	dc := dice(7)
	for n := range 12 {
		all := dc.noise(20)
		kept := slices.Clone(all)
		d, m := newDecoder(t, all[:n], 1), newModelDecoder(kept[:n], 1)
		for range 400 {
			wantGet(t, d, 0, m.get(0), api.OK)
		}
		if !bytes.Equal(all, kept) {
			t.Errorf("%x became %x", kept, all)
		}
	}
}

// TestApart: P4.5 (R2): a call on a coder changes that coder alone.
func TestApart(t *testing.T) {
	dc := dice(8)
	one, two := newCoder(t, 2), newCoder(t, 2)
	m, k := newModelCoder(2), newModelCoder(2)
	for _, x := range dc.decisions(500, 2, 2) {
		one.Put(x.context, x.bit)
		m.put(x.context, x.bit)
		two.Put(x.context, 1-x.bit)
		k.put(x.context, 1-x.bit)
	}
	wantFlush(t, one, m.flush(), api.OK)
	wantStates(t, two.States(), k.told())
	wantFlush(t, two, k.flush(), api.OK)
}
