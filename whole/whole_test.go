package whole_test

import (
	"math"
	"strings"
	"testing"

	"burin/api"
	"burin/arith"
	"burin/whole"
)

// TestExampleBits: P5.2: the chapter's first example, and the rows' edges, bit by bit, in the contexts of P5.1.
func TestExampleBits(t *testing.T) {
	ones := strings.Repeat("1", 12)
	for _, x := range []struct {
		n    api.Whole
		bits string
	}{
		{api.Whole{}, "0000"},
		{api.Whole{V: -1}, "1001"},
		{api.Whole{V: 3}, "0011"},
		{api.Whole{V: 4}, "0100000"},
		{api.Whole{V: -19}, "1101111"},
		{api.Whole{V: 20}, "0110000000"},
		{api.Whole{V: 83}, "0110111111"},
		{api.Whole{V: -84}, "1111000000000"},
		{api.Whole{V: 339}, "0111011111111"},
		{api.Whole{V: 340}, "011110000000000000"},
		{api.Whole{V: 4435}, "011110" + ones},
		{api.Whole{V: 4436}, "011111" + strings.Repeat("0", 32)},
		{api.Whole{V: -4437}, "111111" + strings.Repeat("0", 31) + "1"},
		{api.Whole{V: 1<<31 - 1}, "011111" + "0111111111111111" + "1110111010101011"},
		{api.Whole{None: true}, "1000"},
		{api.Whole{V: 77, None: true}, "1000"},
		{api.Whole{V: math.MinInt64, None: true}, "1000"},
	} {
		if x.bits != modelBits(x.n) {
			t.Fatalf("%v: the model says %s, want %s", x.n, modelBits(x.n), x.bits)
		}
		c, m := newCoder(t, 512), newCoder(t, 512)
		wantPut(t, c, 0, x.n, api.OK)
		modelPut(m, 0, x.bits, true)
		wantSame(t, c, m)
	}
}

// TestContexts: P5.1: each bit has its context, at any base; V begins anew with each number.
func TestContexts(t *testing.T) {
	const contexts = 2000
	for _, base := range []int{0, 1, 511, 512, 700, contexts - 512} {
		c, m := newCoder(t, contexts), newCoder(t, contexts)
		for _, n := range allEdges() {
			wantPut(t, c, base, n, api.OK)
			modelPut(m, base, modelBits(n), true)
		}
		for i, s := range c.States() {
			if s != 0 && (i <= base || i >= base+512) {
				t.Fatalf("base %d: context %d was asked", base, i)
			}
		}
		wantSame(t, c, m)
	}
}

// TestAllSmall: P5.3: every number of up to 14 bits, coded as its bits say, is got.
func TestAllSmall(t *testing.T) {
	c, m := newCoder(t, 512), newCoder(t, 512)
	for v := int64(-9000); v <= 9000; v++ {
		wantPut(t, c, 0, api.Whole{V: v}, api.OK)
		modelPut(m, 0, modelBits(api.Whole{V: v}), true)
	}
	b, _ := c.Flush()
	want, _ := m.Flush()
	if string(b) != string(want) {
		t.Fatal("other bytes than decision by decision")
	}
	d := newDecoder(t, b, 512)
	for v := int64(-9000); v <= 9000; v++ {
		wantGet(t, d, 0, api.Whole{V: v}, api.OK)
	}
}

// TestPutRefused: P5.3: the first error that applies; nothing is coded beside it.
func TestPutRefused(t *testing.T) {
	over := api.Whole{V: api.MaxWhole + 1}
	wantPut(t, nil, -1, over, api.ErrWholeNone)
	wantPut(t, nil, 0, api.Whole{}, api.ErrWholeNone)
	wantPut(t, newCoder(t, 511), 0, api.Whole{V: 1}, api.ErrWholeBase)
	c := newCoder(t, 600)
	for _, base := range []int{-1, -512, 89, 600, 1 << 31, math.MinInt, math.MaxInt, math.MaxInt - 511, math.MaxInt - 512} {
		wantPut(t, c, base, api.Whole{V: 1}, api.ErrWholeBase)
		wantPut(t, c, base, over, api.ErrWholeBase)
		wantPut(t, c, base, api.Whole{None: true}, api.ErrWholeBase)
	}
	for _, v := range []int64{1<<31 + 1, -1<<31 - 1, 1 << 32, -1 << 32, math.MaxInt64, math.MinInt64, math.MinInt64 + 1} {
		wantPut(t, c, 88, api.Whole{V: v}, api.ErrWholeRange)
	}
	wantPut(t, c, 88, api.Whole{V: -1 << 31}, api.OK)
	wantPut(t, c, 88, api.Whole{V: math.MaxInt64, None: true}, api.OK)
	m := newCoder(t, 600)
	modelPut(m, 88, modelBits(api.Whole{V: -1 << 31}), true)
	modelPut(m, 88, "1000", true)
	wantSame(t, c, m)
	wantPut(t, c, 88, over, api.ErrWholeRange)
	wantPut(t, c, 88, api.Whole{}, api.ErrArithDone)
}

// TestGetRefused: P5.3: no decoder, no contexts; nothing is passed.
func TestGetRefused(t *testing.T) {
	wantGet(t, nil, 0, api.Whole{}, api.ErrWholeNone)
	wantGet(t, nil, -1, api.Whole{}, api.ErrWholeNone)
	wantGet(t, newDecoder(t, []byte{9, 8, 7}, 511), 0, api.Whole{}, api.ErrWholeBase)
	c := newCoder(t, 600)
	wantPut(t, c, 88, api.Whole{V: -341}, api.OK)
	b, _ := c.Flush()
	d := newDecoder(t, b, 600)
	for _, base := range []int{-1, 89, 600, math.MinInt, math.MaxInt, math.MaxInt - 511} {
		wantGet(t, d, base, api.Whole{}, api.ErrWholeBase)
	}
	wantGet(t, d, 88, api.Whole{V: -341}, api.OK)
}

// TestTooGreat: P5.3: bits that say more than may be are passed, and refused; the numbers behind them are got.
func TestTooGreat(t *testing.T) {
	const head = "11111"
	c := newCoder(t, 512)
	for _, sign := range []string{"0", "1"} {
		modelPut(c, 0, sign+head+strings.Repeat("1", 32), true)
		modelPut(c, 0, sign+head+"0111111111111111"+"1110111010101101", true) // MaxWhole + 1
		modelPut(c, 0, sign+head+"0111111111111111"+"1110111010101100", true) // MaxWhole
		modelPut(c, 0, sign+head+"1"+strings.Repeat("0", 31), true)
		wantPut(t, c, 0, api.Whole{V: 19}, api.OK)
	}
	b, _ := c.Flush()
	d := newDecoder(t, b, 512)
	for _, most := range []int64{api.MaxWhole, -api.MaxWhole} {
		wantGet(t, d, 0, api.Whole{}, api.ErrWholeRange)
		wantGet(t, d, 0, api.Whole{}, api.ErrWholeRange)
		wantGet(t, d, 0, api.Whole{V: most}, api.OK)
		wantGet(t, d, 0, api.Whole{}, api.ErrWholeRange)
		wantGet(t, d, 0, api.Whole{V: 19}, api.OK)
	}
	wantDecode(t, b, 1, nil, api.ErrWholeRange)
}

// TestIDs: P5.4: every ID of every width, as its bits say; of width 0 none.
func TestIDs(t *testing.T) {
	for width := range 13 {
		size := 1 << width
		for _, base := range []int{0, 5} {
			c, m := newCoder(t, size+5), newCoder(t, size+5)
			for id := range size {
				wantPutID(t, c, base, width, id, api.OK)
				modelPut(m, base, thing{isID: true, width: width, id: id}.bits(), false)
			}
			if string(c.States()) != string(m.States()) {
				t.Fatalf("width %d, base %d: other states than decision by decision", width, base)
			}
			b, _ := c.Flush()
			want, _ := m.Flush()
			if string(b) != string(want) {
				t.Fatalf("width %d, base %d: other bytes than decision by decision", width, base)
			}
			d := newDecoder(t, b, size+5)
			for id := range size {
				wantGetID(t, d, base, width, id, api.OK)
			}
		}
	}
}

// TestIDRefused: P5.4: the first error that applies; the chapter's second example among them.
func TestIDRefused(t *testing.T) {
	c, d := newCoder(t, 600), newDecoder(t, []byte{1, 2, 3, 4}, 600)
	wantPutID(t, nil, -1, 13, -1, api.ErrWholeNone)
	wantGetID(t, nil, -1, 13, 0, api.ErrWholeNone)
	for _, width := range []int{-1, 13, 64, 65, math.MinInt, math.MaxInt} {
		wantPutID(t, c, -1, width, -1, api.ErrWholeWidth)
		wantGetID(t, d, -1, width, 0, api.ErrWholeWidth)
	}
	for _, x := range []struct{ base, width int }{{-1, 0}, {600, 0}, {-1, 3}, {593, 3}, {599, 1}, {89, 9}, {0, 10}, {0, 12}, {math.MaxInt, 3}, {math.MaxInt - 7, 3}, {math.MaxInt, 0}, {math.MinInt, 12}} {
		wantPutID(t, c, x.base, x.width, -1, api.ErrWholeBase)
		wantPutID(t, c, x.base, x.width, 0, api.ErrWholeBase)
		wantGetID(t, d, x.base, x.width, 0, api.ErrWholeBase)
	}
	for _, id := range []int{8, -1, 9, 1 << 40, math.MinInt, math.MaxInt} {
		wantPutID(t, c, 0, 3, id, api.ErrWholeRange)
		wantPutID(t, c, 592, 3, id, api.ErrWholeRange)
		wantPutID(t, c, 599, 0, id, api.ErrWholeRange)
	}
	wantPutID(t, c, 599, 0, 1, api.ErrWholeRange)
	wantPutID(t, c, 599, 0, 0, api.OK)
	wantPutID(t, c, 592, 3, 7, api.OK)
	m := newCoder(t, 600)
	modelPut(m, 592, "111", false)
	wantSame(t, c, m)
	wantPutID(t, c, 592, 3, 8, api.ErrWholeRange)
	wantPutID(t, c, 592, 3, 7, api.ErrArithDone)
	wantPutID(t, c, 599, 0, 0, api.OK) // no decision is asked of the coder
}

// TestFull: P5.3, P5.4: the coder's error and the decoder's; what was coded ahead of it stays coded.
func TestFull(t *testing.T) {
	c, d := nearlyFull(t, 7+3)
	m, _ := nearlyFull(t, 7+3)
	wantPut(t, c, 0, api.Whole{V: 4}, api.OK)
	wantPut(t, c, 0, api.Whole{V: 4435}, api.ErrArithFull)
	wantPut(t, c, 0, api.Whole{}, api.ErrArithFull)
	wantPutID(t, c, 0, 1, 0, api.ErrArithFull)
	modelPut(m, 0, "0100000", true)
	modelPut(m, 0, "011", true)
	wantSame(t, c, m)
	for left := 10; left > 0; left-- {
		d.Get(0)
	}
	wantGet(t, d, 0, api.Whole{}, api.ErrArithFull)
	wantGetID(t, d, 0, 4, 0, api.ErrArithFull)
	wantGetID(t, d, 0, 0, 0, api.OK)
}

// TestFullWithin: P5.3, P5.4: the decoder ends within a number, at each of its parts, and within an ID.
func TestFullWithin(t *testing.T) {
	for _, left := range []int{1, 2, 3} {
		_, d := nearlyFull(t, left)
		wantGet(t, d, 0, api.Whole{}, api.ErrArithFull)
	}
	c, d := nearlyFull(t, 3)
	wantPutID(t, c, 0, 4, 15, api.ErrArithFull)
	wantGetID(t, d, 0, 4, 0, api.ErrArithFull)
}

// TestEncode: P5.5: the bytes of a coder of 512 contexts with all put at base 0; of no numbers, too.
func TestEncode(t *testing.T) {
	dc := dice(1)
	lists := [][]api.Whole{nil, {}, {{}}, {{None: true}}, allEdges()}
	for range 200 {
		lists = append(lists, dc.numbers(dc.below(60)))
	}
	for _, l := range lists {
		m := newCoder(t, 512)
		for _, n := range l {
			modelPut(m, 0, modelBits(n), true)
		}
		b, _ := m.Flush()
		wantEncode(t, l, b, api.OK)
		wantDecode(t, b, len(l), l, api.OK)
	}
}

// TestEncodeRefused: P5.5: one that may not be, wherever it stands.
func TestEncodeRefused(t *testing.T) {
	for _, v := range []int64{1<<31 + 1, -1<<31 - 1, math.MaxInt64, math.MinInt64} {
		over := api.Whole{V: v}
		for _, l := range [][]api.Whole{{over}, {{}, over}, {over, {}}, {{None: true}, over, {V: 3}}} {
			wantEncode(t, l, nil, api.ErrWholeRange)
		}
	}
	if b, err := whole.Encode([]api.Whole{{V: math.MaxInt64, None: true}}); len(b) == 0 || err != api.OK {
		t.Errorf("none with a V: %x, error %d", b, err)
	}
}

// TestEncodeFull: P5.5: as many decisions as a coder takes, and one number more; one that may not be goes ahead of that.
func TestEncodeFull(t *testing.T) {
	l := make([]api.Whole, api.MaxDecisions/4, api.MaxDecisions/4+2)
	if b, err := whole.Encode(l); len(b) == 0 || err != api.OK {
		t.Errorf("MaxDecisions decisions: %x, error %d", b, err)
	}
	l[7] = api.Whole{V: 4}
	wantEncode(t, l, nil, api.ErrArithFull)
	l[7] = api.Whole{}
	l = append(l, api.Whole{})
	wantEncode(t, l, nil, api.ErrArithFull)
	l = append(l, api.Whole{V: api.MaxWhole + 1})
	wantEncode(t, l, nil, api.ErrWholeRange)
}

// TestDecodeRefused: P5.5: how many may be asked.
func TestDecodeRefused(t *testing.T) {
	b, _ := whole.Encode(make([]api.Whole, 1<<16))
	for _, n := range []int{-1, 1<<16 + 1, 1 << 40, math.MinInt, math.MaxInt} {
		wantDecode(t, b, n, nil, api.ErrWholeRange)
		wantDecode(t, nil, n, nil, api.ErrWholeRange)
	}
	wantDecode(t, b, 1<<16, make([]api.Whole, 1<<16), api.OK)
	wantDecode(t, b, 0, nil, api.OK)
	wantDecode(t, nil, 0, nil, api.OK)
}

// TestNilKinds: P5.7: a nil coder that stands in a variable is as nil as the word.
func TestNilKinds(t *testing.T) {
	var c *arith.Coder
	var d *arith.Decoder
	wantPut(t, c, 0, api.Whole{}, api.ErrWholeNone)
	wantPutID(t, c, 0, 0, 0, api.ErrWholeNone)
	wantGet(t, d, 0, api.Whole{}, api.ErrWholeNone)
	wantGetID(t, d, 0, 0, 0, api.ErrWholeNone)
}
