package dict

import (
	"slices"

	"burin/api"
	"burin/arith"
	"burin/bits"
	"burin/generic"
	"burin/whole"
)

// reader goes through a dictionary's bytes from left to right. At the first fault it ends by panic, with the number of the error.
type reader struct {
	d        *arith.Decoder
	template int
	imported int
	count    int          // new symbols that there are to be
	symbols  []api.Bitmap // those that have come
	room     int          // pixels that those to come may have
}

// newReader reads what stands ahead of the decisions.
func newReader(f []byte, imported int) *reader {
	head := bits.NewReader(f)
	first, err := head.Take(8)
	template := int(first)
	demand(err == api.OK && isTemplate(template), api.ErrDictForm)
	count, err := head.Var()
	demand(err == api.OK, api.ErrDictForm)
	demand(count <= uint64(api.MaxSymbols-imported), api.ErrTooBig)
	d, _ := arith.NewDecoder(f[len(f)-head.Left()/8:], contextsOf(template))
	return &reader{d: d, template: template, imported: imported, count: int(count), room: api.MaxArea}
}

func (r *reader) dict() api.Dict {
	for height := range r.classes {
		r.class(height)
	}
	return api.Dict{Template: r.template, New: r.symbols, Export: r.flags()}
}

// classes gives the height of each class, as long as symbols are to come.
func (r *reader) classes(yield func(int) bool) {
	height := 0
	for !r.isWhole() {
		height += r.atLeast(heights, 1)
		demand(height <= api.MaxArea, api.ErrTooBig)
		if !yield(height) {
			return
		}
	}
}

// class reads the symbols of a height up to the none behind the last one. A width is 0 ahead of the first, and never again.
func (r *reader) class(height int) {
	width := 0
	for {
		n := r.number(widths)
		if n.None && width > 0 {
			return
		}
		demand(!n.None && n.V >= 0 && !r.isWhole(), api.ErrDictForm)
		width += int(n.V)
		demand(width >= 1, api.ErrDictForm)
		r.symbol(width, height)
	}
}

// symbol asks for room ahead of the bitmap; what is left is never more than one bitmap may have. The product doesn't wrap: a number that is coded has 32 bits, and a height is within its cap.
func (r *reader) symbol(width, height int) {
	demand(width*height <= r.room, api.ErrTooBig)
	b, err := generic.Get(r.d, bitmaps, width, height, r.template, false)
	demand(err == api.OK, api.ErrDictForm)
	r.room -= width * height
	r.symbols = append(r.symbols, b)
}

// flags reads runs, of false and true ones in turn, up to the last flag; only the first may have none.
func (r *reader) flags() []bool {
	var l []bool
	count, least := r.imported+r.count, int64(0)
	for flag := false; len(l) < count; flag = !flag {
		run := r.atLeast(runs, least)
		demand(run <= count-len(l), api.ErrDictForm)
		l = append(l, slices.Repeat([]bool{flag}, run)...)
		least = 1
	}
	return l
}

// isWhole tells whether all new symbols have come.
func (r *reader) isWhole() bool {
	return len(r.symbols) == r.count
}

// atLeast reads a number where none may not stand.
func (r *reader) atLeast(base int, least int64) int {
	n := r.number(base)
	demand(!n.None && n.V >= least, api.ErrDictForm)
	return int(n.V)
}

// number reads a number, or none. The decoder has decisions enough for all that may be within the caps, so only one that is too great is refused.
func (r *reader) number(base int) api.Whole {
	n, err := whole.Get(r.d, base)
	demand(err == api.OK, api.ErrDictForm)
	return n
}

func demand(holds bool, fault api.Errno) {
	if !holds {
		panic(fault)
	}
}
