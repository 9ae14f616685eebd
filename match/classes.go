package match

import (
	"slices"

	"burin/api"
	"burin/measure"
)

// size is what all bitmaps of a class have in common, whatever the tolerance.
type size struct {
	w, h int
}

// classes are those that have been begun so far.
type classes struct {
	tolerance float64
	reps      []api.Bitmap
	ofSize    map[size][]int // numbers of classes, in the order in which they were begun
}

// join tells the number of the class that a bitmap joins, or begins.
func (c *classes) join(b api.Bitmap) (int, api.Errno) {
	for _, number := range c.ofSize[sizeOf(b)] {
		if c.isNear(number, b) {
			return number, api.OK
		}
	}
	return c.begin(b)
}

// isNear asks for a class of the bitmap's size: of unlike sizes an infinite tolerance would take all.
func (c *classes) isNear(number int, b api.Bitmap) bool {
	unlike, err := measure.Unlike(c.reps[number], b)
	return err == api.OK && unlike <= c.tolerance
}

func (c *classes) begin(b api.Bitmap) (int, api.Errno) {
	number := len(c.reps)
	if number == api.MaxSymbols {
		return 0, api.ErrTooBig
	}
	c.reps = append(c.reps, api.Bitmap{W: b.W, H: b.H, Bits: slices.Clone(b.Bits)})
	c.ofSize[sizeOf(b)] = append(c.ofSize[sizeOf(b)], number)
	return number, api.OK
}

func sizeOf(b api.Bitmap) size {
	return size{w: b.W, h: b.H}
}
