package whole_test

import (
	"bytes"
	"fmt"
	"slices"
	"testing"

	"burin/api"
	"burin/arith"
	"burin/whole"
)

// modelBits are a number's bits as the chapter spells them, case by case.
func modelBits(n api.Whole) string {
	if n.None {
		return "1000"
	}
	sign, m := "0", n.V
	if m < 0 {
		sign, m = "1", -m
	}
	switch {
	case m < 4:
		return sign + fmt.Sprintf("0%02b", m)
	case m < 20:
		return sign + fmt.Sprintf("10%04b", m-4)
	case m < 84:
		return sign + fmt.Sprintf("110%06b", m-20)
	case m < 340:
		return sign + fmt.Sprintf("1110%08b", m-84)
	case m < 4436:
		return sign + fmt.Sprintf("11110%012b", m-340)
	}
	return sign + fmt.Sprintf("11111%032b", m-4436)
}

// modelContexts are the contexts of a row of bits, without base; an ID's are never folded.
func modelContexts(bits string, folded bool) []int {
	v, l := 1, []int{}
	for _, r := range bits {
		l = append(l, v)
		d := int(r - '0')
		if v < 256 || !folded {
			v = 2*v + d
		} else {
			v = (2*v+d)%256 + 256
		}
	}
	return l
}

// modelPut codes a row of bits decision by decision.
func modelPut(c *arith.Coder, base int, bits string, folded bool) {
	for i, v := range modelContexts(bits, folded) {
		c.Put(base+v, int(bits[i]-'0'))
	}
}

// thing is a number of a procedure, or an ID, that is coded at some contexts.
type thing struct {
	base  int
	n     api.Whole
	isID  bool
	width int
	id    int
}

func (x thing) bits() string {
	switch {
	case !x.isID:
		return modelBits(x.n)
	case x.width == 0:
		return ""
	}
	return fmt.Sprintf("%0*b", x.width, x.id)
}

func (x thing) put(c *arith.Coder) api.Errno {
	if x.isID {
		return whole.PutID(c, x.base, x.width, x.id)
	}
	return whole.Put(c, x.base, x.n)
}

// wantGot asks a decoder for the thing.
func (x thing) wantGot(t *testing.T, d *arith.Decoder) {
	t.Helper()
	if x.isID {
		wantGetID(t, d, x.base, x.width, x.id, api.OK)
		return
	}
	wantGet(t, d, x.base, x.n, api.OK)
}

// dice is a row of numbers that is the same in each run.
type dice uint64

func (d *dice) below(n int) int {
	*d += 0x9e3779b97f4a7c15
	z := uint64(*d)
	z = (z ^ z>>30) * 0xbf58476d1ce4e5b9
	z = (z ^ z>>27) * 0x94d049bb133111eb
	return int((z ^ z>>31) % uint64(n))
}

// number is one of any size, or none.
func (d *dice) number() api.Whole {
	if d.below(8) == 0 {
		return api.Whole{None: true}
	}
	v := int64(d.below(1 << (1 + d.below(31))))
	if d.below(3) == 0 {
		edges := edges()
		v = edges[d.below(len(edges))]
	}
	if d.below(2) == 0 {
		v = -v
	}
	return api.Whole{V: v}
}

func (d *dice) numbers(n int) []api.Whole {
	l := make([]api.Whole, n)
	for i := range l {
		l[i] = d.number()
	}
	return l
}

// things are numbers and IDs at any place of so many contexts.
func (d *dice) things(n, contexts int) []thing {
	l := make([]thing, n)
	for i := range l {
		if d.below(2) == 0 {
			l[i] = thing{base: d.below(contexts - 511), n: d.number()}
			continue
		}
		width := d.below(13)
		l[i] = thing{base: d.below(contexts - 1<<width + 1), isID: true, width: width, id: d.below(1 << width)}
	}
	return l
}

func (d *dice) noise(n int) []byte {
	b := make([]byte, n)
	for i := range b {
		b[i] = byte(d.below(256))
		if d.below(4) == 0 {
			b[i] = []byte{0, 0x7f, 0x8f, 0x90, 0xff, 0xff}[d.below(6)]
		}
	}
	return b
}

// edges are the amounts at both sides of each row's end.
func edges() []int64 {
	return []int64{0, 1, 3, 4, 5, 19, 20, 21, 83, 84, 85, 339, 340, 341, 4435, 4436, 4437, 1 << 20, 1<<31 - 1, 1 << 31}
}

// allEdges are the edges of both signs, and none.
func allEdges() []api.Whole {
	l := []api.Whole{{None: true}}
	for _, v := range edges() {
		l = append(l, api.Whole{V: v}, api.Whole{V: -v})
	}
	return l
}

func newCoder(t *testing.T, n int) *arith.Coder {
	t.Helper()
	c, err := arith.New(n)
	if err != api.OK {
		t.Fatalf("New(%d): error %d", n, err)
	}
	return c
}

func newDecoder(t *testing.T, b []byte, n int) *arith.Decoder {
	t.Helper()
	d, err := arith.NewDecoder(b, n)
	if err != api.OK {
		t.Fatalf("NewDecoder of %d: error %d", n, err)
	}
	return d
}

// nearlyFull is a coder that takes so many decisions more, and its like that decodes.
func nearlyFull(t *testing.T, left int) (*arith.Coder, *arith.Decoder) {
	t.Helper()
	c, d := newCoder(t, 4096), newDecoder(t, []byte{1, 2, 3}, 4096)
	for range api.MaxDecisions - left {
		c.Put(0, 0)
		d.Get(0)
	}
	return c, d
}

func wantPut(t *testing.T, c *arith.Coder, base int, n api.Whole, want api.Errno) {
	t.Helper()
	if err := whole.Put(c, base, n); err != want {
		t.Fatalf("Put(%d, %v): error %d, want %d", base, n, err, want)
	}
}

func wantGet(t *testing.T, d *arith.Decoder, base int, want api.Whole, wantErr api.Errno) {
	t.Helper()
	if n, err := whole.Get(d, base); n != want || err != wantErr {
		t.Fatalf("Get(%d): %v, error %d, want %v, error %d", base, n, err, want, wantErr)
	}
}

func wantPutID(t *testing.T, c *arith.Coder, base, width, id int, want api.Errno) {
	t.Helper()
	if err := whole.PutID(c, base, width, id); err != want {
		t.Fatalf("PutID(%d, %d, %d): error %d, want %d", base, width, id, err, want)
	}
}

func wantGetID(t *testing.T, d *arith.Decoder, base, width, want int, wantErr api.Errno) {
	t.Helper()
	if id, err := whole.GetID(d, base, width); id != want || err != wantErr {
		t.Fatalf("GetID(%d, %d): %d, error %d, want %d, error %d", base, width, id, err, want, wantErr)
	}
}

func wantEncode(t *testing.T, l []api.Whole, want []byte, wantErr api.Errno) {
	t.Helper()
	if b, err := whole.Encode(l); !bytes.Equal(b, want) || err != wantErr {
		t.Fatalf("Encode(%.200v): %.100x, error %d, want %.100x, error %d", fmt.Sprint(l), b, err, want, wantErr)
	}
}

func wantDecode(t *testing.T, b []byte, n int, want []api.Whole, wantErr api.Errno) {
	t.Helper()
	if l, err := whole.Decode(b, n); !slices.Equal(l, want) || err != wantErr {
		t.Fatalf("Decode(%.100x, %d): %.200s, error %d, want %.200s, error %d", b, n, fmt.Sprint(l), err, fmt.Sprint(want), wantErr)
	}
}

// wantSame holds two coders against each other: their tables, then their bytes.
func wantSame(t *testing.T, got, want *arith.Coder) {
	t.Helper()
	if !bytes.Equal(got.States(), want.States()) {
		t.Fatal("other states than decision by decision")
	}
	b, _ := got.Flush()
	if k, _ := want.Flush(); !bytes.Equal(b, k) {
		t.Fatalf("%x, want %x", b, k)
	}
}
