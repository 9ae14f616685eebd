package text

import (
	"burin/api"
	"burin/arith"
	"burin/bitmap"
	"burin/bits"
	"burin/refine"
	"burin/whole"
)

// reader goes through a region's bytes from left to right. At the first fault it ends by panic, with the number of the error.
type reader struct {
	d       *arith.Decoder
	symbols []api.Bitmap
	width   int      // of an ID
	t       api.Text // its instances are those that have come
	count   int      // instances that there are to be
	room    int      // pixels that those that differ may still have
	strip   int
	first   int // the X of the strip's first instance
	x       int // that of the instance that is read
}

// newReader reads what stands ahead of the decisions.
func newReader(f []byte, symbols []api.Bitmap) *reader {
	h := headReader{bits.NewReader(f)}
	t := h.frame()
	count := h.number()
	demand(count == 0 || len(symbols) > 0, api.ErrTextForm)
	demand(count <= api.MaxInstances, api.ErrTooBig)
	d, _ := arith.NewDecoder(f[len(f)-h.r.Left()/8:], contexts)
	return &reader{d: d, symbols: symbols, width: widthOf(len(symbols)), t: t, count: int(count), room: api.MaxArea}
}

// text reads strip by strip; a strip ends with none in place of a step.
func (r *reader) text() api.Text {
nextStrip:
	for !r.isWhole() {
		r.begin()
		for {
			r.instance()
			step := r.number(steps)
			if step.None {
				continue nextStrip
			}
			demand(step.V >= 0 && !r.isWhole(), api.ErrTextForm)
			r.x += int(step.V)
		}
	}
	return r.t
}

// begin reads which strip it is, and where its first instance stands. The first strip of all may be any.
func (r *reader) begin() {
	add := r.some(strips)
	demand(add >= 1 || len(r.t.L) == 0, api.ErrTextForm)
	r.strip += add
	r.first += r.some(firsts)
	r.x = r.first
}

// instance reads what is told of an instance behind its X. No sum wraps: each number has 32 bits, and places ahead of it were within their cap.
func (r *reader) instance() {
	y := r.strip<<r.t.Strip + r.row()
	demand(isPlace(r.x) && isPlace(y), api.ErrTextForm)
	id, err := whole.GetID(r.d, ids, r.width)
	demand(err == api.OK && id < len(r.symbols), api.ErrTextForm)
	i := api.Instance{X: r.x, Y: y, Symbol: id, Differ: r.doesDiffer()}
	if i.Differ {
		i.B = r.look(r.symbols[id])
	}
	r.t.L = append(r.t.L, i)
}

// row reads which row of the strip it is; a strip of one row needs no telling.
func (r *reader) row() int {
	if r.t.Strip == 0 {
		return 0
	}
	row := r.some(rows)
	demand(0 <= row && row < 1<<r.t.Strip, api.ErrTextForm)
	return row
}

func (r *reader) doesDiffer() bool {
	if !r.t.Refine {
		return false
	}
	bit, err := r.d.Get(differs)
	demand(err == api.OK, api.ErrTextForm)
	return bit == 1
}

// look reads a bitmap that stands for the symbol; room is asked for ahead of it.
func (r *reader) look(symbol api.Bitmap) api.Bitmap {
	r.room -= symbol.W * symbol.H
	demand(r.room >= 0, api.ErrTooBig)
	b, err := refine.Get(r.d, refined, symbol.W, symbol.H, symbol, 0, 0)
	demand(err == api.OK && !bitmap.Equal(b, symbol), api.ErrTextForm)
	return b
}

// isWhole tells whether all instances have come.
func (r *reader) isWhole() bool {
	return len(r.t.L) == r.count
}

// some reads a number where none may not stand.
func (r *reader) some(base int) int {
	n := r.number(base)
	demand(!n.None, api.ErrTextForm)
	return int(n.V)
}

// number reads a number, or none. The decoder has decisions enough for all that may be within the caps, so only one that is too great is refused.
func (r *reader) number(base int) api.Whole {
	n, err := whole.Get(r.d, base)
	demand(err == api.OK, api.ErrTextForm)
	return n
}

// headReader reads what stands ahead of the decisions.
type headReader struct {
	r *bits.Reader
}

// frame reads a region up to how many instances it has.
func (h headReader) frame() api.Text {
	t := api.Text{X: h.corner(), Y: h.corner()}
	t.W, t.H = h.size()
	form, err := h.r.Take(8)
	demand(err == api.OK && form < unused, api.ErrTextForm)
	t.Op = int(form % refines)
	demand(isOp(t.Op), api.ErrTextForm)
	t.Refine = form&refines != 0
	t.Default = int(form / defaults % 2)
	t.Strip = int(form / shifts)
	return t
}

func (h headReader) corner() int {
	n := h.number()
	demand(n <= api.MaxArea, api.ErrTextForm)
	return int(n)
}

// size asks by a quotient: a product might wrap.
func (h headReader) size() (int, int) {
	width := h.number()
	demand(width > 0, api.ErrTextForm)
	height := h.number()
	demand(height > 0, api.ErrTextForm)
	demand(width <= api.MaxArea/height, api.ErrTooBig)
	return int(width), int(height)
}

func (h headReader) number() uint64 {
	n, err := h.r.Var()
	demand(err == api.OK, api.ErrTextForm)
	return n
}

func demand(holds bool, fault api.Errno) {
	if !holds {
		panic(fault)
	}
}
