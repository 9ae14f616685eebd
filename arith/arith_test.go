package arith_test

import (
	"encoding/hex"
	"math"
	"slices"
	"testing"

	"burin/api"
	"burin/arith"
)

// TestNew: P4.1: as many contexts as may be, and no others.
func TestNew(t *testing.T) {
	for _, n := range []int{1, 2, 3, 512, api.MaxContexts - 1, api.MaxContexts} {
		if got := newCoder(t, n).Contexts(); got != n {
			t.Errorf("a coder of %d: %d contexts", n, got)
		}
		if got := newDecoder(t, []byte{1, 2}, n).Contexts(); got != n {
			t.Errorf("a decoder of %d: %d contexts", n, got)
		}
	}
	for _, n := range []int{math.MinInt, -1, 0, 131073, 1 << 32, math.MaxInt} {
		if c, err := arith.New(n); c != nil || err != api.ErrArithTable {
			t.Errorf("New(%d): %v, error %d", n, c, err)
		}
		for _, b := range [][]byte{nil, {1, 2, 3}} {
			if d, err := arith.NewDecoder(b, n); d != nil || err != api.ErrArithTable {
				t.Errorf("NewDecoder(%v, %d): %v, error %d", b, n, d, err)
			}
		}
	}
}

// TestExample: P4.2: the chapter's first example, bytes and bits.
func TestExample(t *testing.T) {
	in, _ := hex.DecodeString("00020051000000c00352872aaaaaaaaa82c02000fcd79ef6bf7fed904f46a3bf")
	want, _ := hex.DecodeString("84c73bfce1a1430402200000410dbb86f4317fff88ff37471adb6adf")
	c, d := newCoder(t, 1), newDecoder(t, want, 1)
	for i := range 8 * len(in) {
		bit := int(in[i/8] >> (7 - i%8) & 1)
		wantPut(t, c, 0, bit, api.OK)
		wantGet(t, d, 0, bit, api.OK)
		wantStates(t, d.States(), c.States())
	}
	wantFlush(t, c, want, api.OK)
}

// TestNoDecisions: P4.2: a coder without decisions tells bytes, too; so does one of a single decision.
func TestNoDecisions(t *testing.T) {
	wantFlush(t, newCoder(t, 1), []byte{0xff, 0x7f}, api.OK)
	for bit := range 2 {
		c, m := newCoder(t, 1), newModelCoder(1)
		wantPut(t, c, 0, bit, api.OK)
		m.put(0, bit)
		wantFlush(t, c, m.flush(), api.OK)
	}
}

// TestPutRefused: P4.2: what is refused changes nothing; of several errors the first is told.
func TestPutRefused(t *testing.T) {
	c, m := newCoder(t, 3), newModelCoder(3)
	for i, x := range []decision{{0, 1}, {1, 0}, {2, 1}, {5, 1}, {-1, 0}} {
		for _, bit := range []int{2, -1, 256, 257, math.MinInt, math.MaxInt, 1 << 32} {
			wantPut(t, c, i, bit, api.ErrArithBit)
		}
		wantPut(t, c, x.context, x.bit, api.OK)
		m.put(x.context, x.bit)
	}
	wantStates(t, c.States(), m.told())
	wantFlush(t, c, m.flush(), api.OK)
	for range 2 {
		wantFlush(t, c, nil, api.ErrArithDone)
		wantPut(t, c, 0, 0, api.ErrArithDone)
		wantPut(t, c, 0, 2, api.ErrArithDone)
	}
	wantStates(t, c.States(), m.told())
	if c.Contexts() != 3 {
		t.Errorf("flushed: %d contexts", c.Contexts())
	}
}

// TestPlaces: P4.2: a context's number is taken modulo how many there are, 0 or more.
func TestPlaces(t *testing.T) {
	for _, n := range []int{1, 2, 3, 7, 512, api.MaxContexts} {
		for _, context := range []int{0, 1, -1, n - 1, n, n + 1, -n, -n - 1, 1 - n, 2*n + 1, math.MinInt, math.MaxInt} {
			c := newCoder(t, n)
			d := newDecoder(t, []byte{0xff, 0x80}, n)
			want := make([]byte, n)
			place := context % n
			if place < 0 {
				place += n
			}
			want[place] = 3
			wantPut(t, c, context, 1, api.OK)
			wantStates(t, c.States(), want)
			bit, err := d.Get(context)
			want[place] = byte(2 + bit)
			if err != api.OK {
				t.Fatalf("Get(%d): error %d", context, err)
			}
			wantStates(t, d.States(), want)
		}
	}
}

// TestFull: P4.2: a coder and a decoder make MaxDecisions decisions, refused ones not among them, and no more.
func TestFull(t *testing.T) {
	c := newCoder(t, 2)
	wantPut(t, c, 0, 2, api.ErrArithBit)
	m := newModelCoder(2)
	for i := range api.MaxDecisions {
		bit := 0
		if i < 100 {
			bit = i % 2
		}
		if err := c.Put(i, bit); err != api.OK { // asked here: there are many
			t.Fatalf("decision %d: error %d", i, err)
		}
		m.put(i, bit)
	}
	for range 2 {
		wantPut(t, c, 0, 0, api.ErrArithFull)
		wantPut(t, c, 0, 2, api.ErrArithBit)
	}
	wantStates(t, c.States(), m.told())
	b := m.flush()
	wantFlush(t, c, b, api.OK)
	wantPut(t, c, 0, 0, api.ErrArithDone)
	d := newDecoder(t, b, 2)
	for i := range api.MaxDecisions {
		want := 0
		if i < 100 {
			want = i % 2
		}
		if bit, err := d.Get(i); bit != want || err != api.OK {
			t.Fatalf("decision %d: %d, error %d", i, bit, err)
		}
	}
	for range 2 {
		wantGet(t, d, 0, 0, api.ErrArithFull)
	}
	wantStates(t, d.States(), c.States())
}

// TestAgainstModel: P4.2, P4.3: bytes, bits and states are those of the chapter's words.
func TestAgainstModel(t *testing.T) {
	dc := dice(1)
	for range 300 {
		n, skew := 1+dc.below(6), []int{0, 1, 3, 20, 500}[dc.below(5)]
		c, m := newCoder(t, n), newModelCoder(n)
		for _, x := range dc.decisions(dc.below(4000), n, skew) {
			wantPut(t, c, x.context, x.bit, api.OK)
			m.put(x.context, x.bit)
		}
		wantStates(t, c.States(), m.told())
		wantFlush(t, c, m.flush(), api.OK)
	}
}

// TestShortRows: P4.2: all rows of up to 15 bits, of one context and of two in turn.
func TestShortRows(t *testing.T) {
	for n := range 16 {
		for bits := range 1 << n {
			for contexts := 1; contexts <= 2; contexts++ {
				c, m := newCoder(t, contexts), newModelCoder(contexts)
				for i := range n {
					c.Put(i, bits>>i&1)
					m.put(i, bits>>i&1)
				}
				wantFlush(t, c, m.flush(), api.OK)
			}
		}
	}
}

// TestEveryState: P4.3: each state that may be come to is come to, and left both ways as the chapter says.
func TestEveryState(t *testing.T) {
	ways := map[byte][]bool{0: nil} // to each state, likelier bit: behind which of the two bits it is left on the way
	for todo := []byte{0}; len(todo) > 0; todo = todo[1:] {
		for _, likely := range []bool{true, false} {
			way := append(slices.Clone(ways[todo[0]]), likely)
			end := walk(t, way)
			if _, known := ways[end]; !known {
				ways[end] = way
				todo = append(todo, end)
			}
		}
	}
	if len(ways) != 2*46-1 {
		t.Errorf("%d states are come to", len(ways))
	}
}

// walk leaves state by state, behind the likelier bit or the other one, and tells the last one.
func walk(t *testing.T, way []bool) byte {
	c, m := newCoder(t, 1), newModelCoder(1)
	for _, likely := range way {
		ahead := m.told()[0]
		bit := m.likely[0]
		if !likely {
			bit = 1 - bit
		}
		for n := 0; n < 1<<16 && m.index[0] == int(ahead/2); n++ {
			wantPut(t, c, 0, bit, api.OK)
			m.put(0, bit)
			if !likely {
				break
			}
		}
		wantStates(t, c.States(), m.told())
	}
	wantFlush(t, c, m.flush(), api.OK)
	return m.told()[0]
}
