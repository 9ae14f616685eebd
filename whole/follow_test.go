package whole_test

import (
	"bytes"
	"slices"
	"strings"
	"testing"

	"burin/api"
	"burin/arith"
	"burin/whole"
)

// TestThereAndBack: P5.6: what was put is got, number by number, whatever stands between: IDs, other procedures, bare decisions.
func TestThereAndBack(t *testing.T) {
	dc := dice(2)
	for range 60 {
		contexts := 4096 + dc.below(2000)
		l := dc.things(dc.below(300), contexts)
		c, m := newCoder(t, contexts), newCoder(t, contexts)
		for i, x := range l {
			if err := x.put(c); err != api.OK {
				t.Fatalf("%+v: error %d", x, err)
			}
			modelPut(m, x.base, x.bits(), !x.isID)
			c.Put(i, i%2)
			m.Put(i, i%2)
		}
		b, _ := c.Flush()
		if want, _ := m.Flush(); !bytes.Equal(b, want) {
			t.Fatal("other bytes than decision by decision")
		}
		d := newDecoder(t, b, contexts)
		for i, x := range l {
			x.wantGot(t, d)
			if bit, _ := d.Get(i); bit != i%2 {
				t.Fatalf("behind %+v: %d", x, bit)
			}
		}
	}
}

// modelGet tells what the bits say that a decoder tells one by one.
func modelGet(d *arith.Decoder) (api.Whole, api.Errno) {
	v, bits := 1, ""
	take := func(n int) int64 {
		word := int64(0)
		for range n {
			bit, _ := d.Get(v)
			bits += string(rune('0' + bit))
			if v = 2*v + bit; v > 511 {
				v = v%256 + 256
			}
			word = 2*word + int64(bit)
		}
		return word
	}
	below := take(1) == 1
	ones := 0
	for ones < 5 && take(1) == 1 {
		ones++
	}
	m := take([]int{2, 4, 6, 8, 12, 32}[ones]) + []int64{0, 4, 20, 84, 340, 4436}[ones]
	switch {
	case m > 1<<31:
		return api.Whole{}, api.ErrWholeRange
	case strings.HasPrefix(bits, "1000"):
		return api.Whole{None: true}, api.OK
	case below:
		return api.Whole{V: -m}, api.OK
	}
	return api.Whole{V: m}, api.OK
}

// TestAnyBytes: P5.6: over any bytes Decode tells numbers, those that the bits say, or ErrWholeRange.
func TestAnyBytes(t *testing.T) {
	dc, told, refused := dice(3), 0, 0
	some := [][]byte{nil, {}, {0}, {0xff}, {0xff, 0xff}, {0xff, 0x8f}, {0, 0, 0, 0}}
	for range 1500 {
		some = append(some, dc.noise(dc.below(30)))
	}
	for _, b := range some {
		n := dc.below(40)
		d := newDecoder(t, b, 512)
		var want []api.Whole
		bad := api.OK
		for i := 0; i < n && bad == api.OK; i++ {
			var x api.Whole
			x, bad = modelGet(d)
			want = append(want, x)
		}
		if bad != api.OK {
			refused++
			want = nil
		} else {
			told++
		}
		wantDecode(t, b, n, want, bad)
	}
	if told == 0 || refused == 0 {
		t.Errorf("%d told, %d refused: not both were tried", told, refused)
	}
}

// TestMany: P5.6: as many numbers as Decode tells, of bytes that say nothing, end.
func TestMany(t *testing.T) {
	dc := dice(4)
	for _, b := range [][]byte{nil, {0}, dc.noise(50), dc.noise(3000)} {
		l, err := whole.Decode(b, 1<<16)
		if err != api.OK && err != api.ErrWholeRange || err == api.OK && len(l) != 1<<16 || err != api.OK && l != nil {
			t.Errorf("%.20x: %d numbers, error %d", b, len(l), err)
		}
	}
}

// TestKeepsNothing: P5.7: lists and bytes that are handed in stay as they are, behind their length, too; answers are the caller's own.
func TestKeepsNothing(t *testing.T) {
	dc := dice(5)
	all := dc.numbers(60)
	kept := slices.Clone(all)
	b, _ := whole.Encode(all[:40])
	if !slices.Equal(all, kept) {
		t.Error("Encode changed its list")
	}
	for i := 40; i < 60; i++ {
		all[i] = api.Whole{V: 1 << 50}
	}
	again, err := whole.Encode(all[:40])
	if !bytes.Equal(again, b) || err != api.OK {
		t.Error("Encode looks behind the list")
	}
	for i := range again {
		again[i] = 0xff
	}
	wantEncode(t, kept[:40], b, api.OK)

	wide := append(bytes.Clone(b), 0x55, 0xaa)
	one, _ := whole.Decode(wide[:len(b)], 40)
	two, _ := whole.Decode(b[:len(b):len(b)], 40)
	if !slices.Equal(one, two) || !slices.Equal(one, kept[:40]) || !bytes.Equal(wide[:len(b)], b) || wide[len(b)] != 0x55 {
		t.Error("Decode looks behind the bytes, or changes them")
	}
	for i := range one {
		one[i] = api.Whole{V: 5}
	}
	wantDecode(t, b, 40, kept[:40], api.OK)
}
