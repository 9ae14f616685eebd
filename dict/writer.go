package dict

import (
	"iter"

	"burin/api"
	"burin/arith"
	"burin/bits"
	"burin/generic"
	"burin/whole"
)

const headMost = 3 // bytes: the template, and the two that a number up to MaxSymbols takes as a Var

// write tells the bytes of a dictionary that may be. None of the calls below it is refused: all sizes are within their caps, and what is within them takes fewer decisions than a coder has.
func write(d api.Dict) []byte {
	c, _ := arith.New(contextsOf(d.Template))
	w := writer{c: c, template: d.Template}
	height := 0
	for class := range classes(d.New) {
		w.number(heights, class[0].H-height)
		w.class(class)
		height = class[0].H
	}
	w.flags(d.Export)
	f, _ := c.Flush()
	return append(head(d), f...)
}

// head is what stands ahead of the coder's bytes.
func head(d api.Dict) []byte {
	w, _ := bits.NewWriter(headMost)
	w.Put(uint64(d.Template), 8)
	w.Var(uint64(len(d.New)))
	return w.Bytes()
}

// classes gives the symbols of one height, which follow one another, then those of the next.
func classes(l []api.Bitmap) iter.Seq[[]api.Bitmap] {
	return func(yield func([]api.Bitmap) bool) {
		from := 0
		for i := range l {
			if i+1 < len(l) && l[i+1].H == l[i].H {
				continue
			}
			if !yield(l[from : i+1]) {
				return
			}
			from = i + 1
		}
	}
}

// writer puts a dictionary's decisions.
type writer struct {
	c        *arith.Coder
	template int
}

func (w writer) number(base, n int) {
	whole.Put(w.c, base, api.Whole{V: int64(n)})
}

func (w writer) class(l []api.Bitmap) {
	width := 0
	for _, b := range l {
		w.number(widths, b.W-width)
		generic.Put(w.c, bitmaps, b, w.template, false)
		width = b.W
	}
	whole.Put(w.c, widths, api.Whole{None: true})
}

// flags puts how long each run is: ahead of each flag that is unlike the one ahead, and behind the last.
func (w writer) flags(l []bool) {
	run, flag := 0, false
	for _, next := range l {
		if next != flag {
			w.number(runs, run)
			run, flag = 0, next
		}
		run++
	}
	if run > 0 {
		w.number(runs, run)
	}
}
