// Package bits: bits and numbers, written and read: see ../../shared/doc/01-bits.md.
package bits

import (
	"slices"

	"burin/api"
)

const (
	widest     = 64  // bits of a number
	groupWidth = 7   // bits of a number in a group of a Var
	moreGroups = 128 // what a group has beside them, if more groups come
	lastPlace  = 9   // of the tenth group: nine of them hold 63 bits
	lastMost   = 1   // so the tenth has one bit, and no group behind it
)

// unsigned: a group of a Var is a byte, every other number a word.
type unsigned interface {
	uint8 | uint64
}

// Writer writes bits, the highest first.
type Writer struct {
	most int    // bits that there may be
	size int    // bits that there are
	b    []byte // its bits from size on are 0: new ones are laid there by or
}

// NewWriter takes no memory for most: what is written takes it.
func NewWriter(most int) (*Writer, api.Errno) {
	if most < 0 || most > api.MaxBytes {
		return nil, api.ErrBitsSize
	}
	return &Writer{most: 8 * most}, api.OK
}

// Put writes the width lowest bits of n.
func (w *Writer) Put(n uint64, width int) api.Errno {
	if !isWidth(width) {
		return api.ErrBitsWidth
	}
	if n>>width != 0 {
		return api.ErrBitsValue
	}
	return lay(w, n, width)
}

// Var writes n in groups of seven bits, the lowest first.
func (w *Writer) Var(n uint64) api.Errno {
	return w.orBack(func() api.Errno { return w.layGroups(n) })
}

// Align writes zero bits up to a whole byte. There is always room for them: most is whole bytes.
func (w *Writer) Align() {
	w.size = 8 * len(w.b)
}

// Len tells how many bits are written.
func (w *Writer) Len() int {
	return w.size
}

// Bytes tells what is written.
func (w *Writer) Bytes() []byte {
	return slices.Clone(w.b)
}

// orBack writes; if that is refused, the writer is what it was ahead of it.
func (w *Writer) orBack(write func() api.Errno) (err api.Errno) {
	size := w.size
	defer func() {
		if err != api.OK {
			w.cut(size)
		}
	}()
	return write()
}

// cut lets go the bits from size on.
func (w *Writer) cut(size int) {
	w.size = size
	w.b = w.b[:(size+7)/8]
	if used := size % 8; used != 0 {
		w.b[len(w.b)-1] &= 255 << (8 - used)
	}
}

// layGroups writes group by group: if one finds no room, those ahead of it stand.
func (w *Writer) layGroups(n uint64) api.Errno {
	for n >= moreGroups {
		if err := lay(w, uint8(n)|moreGroups, 8); err != api.OK {
			return err
		}
		n >>= groupWidth
	}
	return lay(w, uint8(n), 8)
}

// lay writes the width lowest bits of n; if there is no room, none of them.
func lay[T unsigned](w *Writer, n T, width int) api.Errno {
	if width > w.most-w.size {
		return api.ErrBitsFull
	}
	for width > 0 {
		used := w.size % 8
		if used == 0 {
			w.b = append(w.b, 0)
		}
		step := min(width, 8-used)
		width -= step
		w.b[len(w.b)-1] |= uint8(n>>width) << (8 - step) >> used
		w.size += step
	}
	return api.OK
}

// Reader reads them.
type Reader struct {
	b  []byte
	at int // the bit that comes next
}

// NewReader reads a copy: b stays the caller's own.
func NewReader(b []byte) *Reader {
	return &Reader{b: slices.Clone(b)}
}

// Take reads a number of width bits.
func (r *Reader) Take(width int) (uint64, api.Errno) {
	if !isWidth(width) {
		return 0, api.ErrBitsWidth
	}
	return gather[uint64](r, width)
}

// Var reads a number in groups of seven bits, the lowest first.
func (r *Reader) Var() (uint64, api.Errno) {
	return r.orBack(r.gatherGroups)
}

// Align passes the bits up to a whole byte.
func (r *Reader) Align() api.Errno {
	_, err := r.orBack(r.gatherPad)
	return err
}

// Left tells how many bits are left.
func (r *Reader) Left() int {
	return 8*len(r.b) - r.at
}

// orBack reads; if that is refused, nothing is passed.
func (r *Reader) orBack(read func() (uint64, api.Errno)) (n uint64, err api.Errno) {
	at := r.at
	defer func() {
		if err != api.OK {
			r.at = at
		}
	}()
	return read()
}

// gatherGroups asks each group as it comes, so that the first fault from the left is told; the tenth is the last in any case.
func (r *Reader) gatherGroups() (uint64, api.Errno) {
	n := uint64(0)
	for place := 0; ; place++ {
		group, err := gather[uint8](r, 8)
		if err != api.OK {
			return 0, err
		}
		if place == lastPlace && group > lastMost || place > 0 && group == 0 {
			return 0, api.ErrBitsForm
		}
		n |= uint64(group%moreGroups) << (groupWidth * place)
		if group < moreGroups {
			return n, api.OK
		}
	}
}

// gatherPad tells the bits up to a whole byte only if they are 0. They are always there: the bits end with a whole byte.
func (r *Reader) gatherPad() (uint64, api.Errno) {
	pad, err := gather[uint8](r, (8-r.at%8)%8)
	if pad != 0 {
		return 0, api.ErrBitsPad
	}
	return 0, err
}

// gather passes width bits and tells the number that they make; if fewer are left, it passes none.
func gather[T unsigned](r *Reader, width int) (T, api.Errno) {
	if width > r.Left() {
		return 0, api.ErrBitsEnd
	}
	n := T(0)
	for width > 0 {
		passed := r.at % 8
		step := min(width, 8-passed)
		n = n<<step | T(r.b[r.at/8]<<passed>>(8-step))
		r.at += step
		width -= step
	}
	return n, api.OK
}

func isWidth(width int) bool {
	return 0 <= width && width <= widest
}
