package text

import (
	"slices"

	"burin/api"
	"burin/arith"
	"burin/bits"
	"burin/refine"
	"burin/whole"
)

// What stands in the byte of a region's head: the operation in the bits below refines.
const (
	refines  = 8
	defaults = 16 // times Default
	shifts   = 32 // times Strip
	unused   = 128
)

const headMost = 16 // bytes: five numbers that take three bytes each as Vars, and the byte

// write tells the bytes of a region that may be. None of the calls below it is refused: all sizes are within their caps, and what is within them takes fewer decisions than a coder has.
func write(t api.Text, symbols []api.Bitmap) []byte {
	c, _ := arith.New(contexts)
	w := writer{c: c, t: t, symbols: symbols, width: widthOf(len(symbols))}
	for l := inOrder(t); len(l) > 0; {
		size := w.stripSize(l)
		w.strip(l[:size])
		l = l[size:]
	}
	f, _ := c.Flush()
	return append(head(t), f...)
}

// head is what stands ahead of the coder's bytes.
func head(t api.Text) []byte {
	w, _ := bits.NewWriter(headMost)
	for _, n := range []int{t.X, t.Y, t.W, t.H} {
		w.Var(uint64(n))
	}
	form := t.Op + defaults*t.Default + shifts*t.Strip
	if t.Refine {
		form += refines
	}
	w.Put(uint64(form), 8)
	w.Var(uint64(len(t.L)))
	return w.Bytes()
}

// writer puts a region's decisions.
type writer struct {
	c       *arith.Coder
	t       api.Text
	symbols []api.Bitmap
	width   int // of an ID
	ahead   int // the strip ahead
	first   int // the X of its first instance
}

// stripSize tells how many of the instances, from the first on, are of one strip.
func (w *writer) stripSize(l []api.Instance) int {
	strip := stripOf(w.t, l[0])
	size := slices.IndexFunc(l, func(i api.Instance) bool { return stripOf(w.t, i) != strip })
	if size < 0 {
		return len(l)
	}
	return size
}

// strip puts the instances of one strip, and none behind the last.
func (w *writer) strip(l []api.Instance) {
	strip := stripOf(w.t, l[0])
	w.number(strips, strip-w.ahead)
	w.number(firsts, l[0].X-w.first)
	w.ahead, w.first = strip, l[0].X
	for k, i := range l {
		if k > 0 {
			w.number(steps, i.X-l[k-1].X)
		}
		w.instance(i)
	}
	whole.Put(w.c, steps, api.Whole{None: true})
}

// instance puts what is told of an instance behind its X.
func (w *writer) instance(i api.Instance) {
	if w.t.Strip > 0 {
		w.number(rows, i.Y-w.ahead<<w.t.Strip)
	}
	whole.PutID(w.c, ids, w.width, i.Symbol)
	switch {
	case !w.t.Refine:
	case !i.Differ:
		w.c.Put(differs, 0)
	default:
		w.c.Put(differs, 1)
		refine.Put(w.c, refined, i.B, w.symbols[i.Symbol], 0, 0)
	}
}

func (w *writer) number(base, n int) {
	whole.Put(w.c, base, api.Whole{V: int64(n)})
}
