package refine

import "burin/api"

// contexts are those of a procedure: four pixels of the bitmap itself, nine of the reference.
const contexts = 1 << (4 + 9)

// reference is the bitmap beside, and by how much it is shifted.
type reference struct {
	b      api.Bitmap
	dx, dy int
}

func mayShift(dx, dy int) bool {
	return -api.MaxArea <= dx && dx <= api.MaxArea && -api.MaxArea <= dy && dy <= api.MaxArea
}

// fits takes the procedure's contexts from the coder's: base may be as great as an int is.
func fits(base, of int) bool {
	return base >= 0 && base <= of-contexts
}

// refuse ends a procedure from within a decision.
func refuse(err api.Errno) {
	if err != api.OK {
		panic(err)
	}
}

// through goes through a bitmap's pixels and leaves in it what was decided. Who decides is handed the bit that stands there, and tells the one that is to stand there.
func through(b api.Bitmap, ref reference, decide func(context, bit int) int) (err api.Errno) {
	defer func() {
		if refusal := recover(); refusal != nil {
			err = refusal.(api.Errno)
		}
	}()
	for y := range b.H {
		own, context := row(b, y, 0), told(b, ref, y)
		words := wordsOf(b, y)
		for x := range b.W {
			bit := decide(context(x), own(x))
			words[x/wordWidth] |= uint64(bit) << shiftOf(x)
		}
	}
	return api.OK
}

// told tells the contexts of a row's pixels. The pixels are asked when a context is, so that those that were decided just now are seen.
func told(b api.Bitmap, ref reference, y int) func(x int) int {
	above, own := row(b, y-1, 0), row(b, y, 0)
	top := row(ref.b, y-ref.dy-1, ref.dx)
	middle := row(ref.b, y-ref.dy, ref.dx)
	low := row(ref.b, y-ref.dy+1, ref.dx)
	return func(x int) int {
		itself := three(above, x)<<1 | own(x-1)
		return itself<<9 | three(top, x)<<6 | three(middle, x)<<3 | three(low, x)
	}
}
