package doc

import (
	"burin/api"
	"burin/bitmap"
)

// step is something that was done.
type step struct {
	undo func()
}

// remember adds a step; if there are too many, the oldest is forgotten, and what it kept is let go.
func (d *Doc) remember(s step) {
	if len(d.steps) == api.MaxNames {
		copy(d.steps, d.steps[1:])
		d.steps = withoutLast(d.steps)
	}
	d.steps = append(d.steps, s)
}

// lastStep tells the last step, which is remembered no more.
func (d *Doc) lastStep() (step, bool) {
	if len(d.steps) == 0 {
		return step{}, false
	}
	last := d.steps[len(d.steps)-1]
	d.steps = withoutLast(d.steps)
	return last, true
}

// withoutLast keeps nothing of the last item behind the list's new end.
func withoutLast[T any](l []T) []T {
	last := len(l) - 1
	clear(l[last:])
	return l[:last]
}

// pixelAgain is a step that comes to one pixel; it is inside.
func pixelAgain(m *bitmap.Map, x, y int) step {
	bit := m.Get(x, y)
	return step{undo: func() { m.Set(x, y, bit) }}
}

// pixelsAgain is a step that comes to a rectangle. Its pixels alone are kept: they are few of a page's, mostly.
func pixelsAgain(m *bitmap.Map, across, down span) step {
	if across.n == 0 || down.n == 0 {
		return step{undo: func() {}}
	}
	before, _ := m.Crop(across.at, down.at, across.n, down.n)
	return step{undo: func() { m.Blit(before, 0, 0, across.n, down.n, across.at, down.at, api.OpReplace) }}
}

// span is n places from a place on.
type span struct {
	at, n int
}

// clip tells those of n places that are inside both where they come from and where they go to: where they go to.
func clip(from, fromEnd, to, toEnd, n int) span {
	first := max(gap(from, 0), gap(to, 0))
	end := min(uint64(n), gap(from, fromEnd), gap(to, toEnd))
	if first >= end {
		return span{}
	}
	return span{at: to + int(first), n: int(end - first)}
}

// gap is how far b lies behind a, 0 if it doesn't: of any two ints it has room in a word.
func gap(a, b int) uint64 {
	if b <= a {
		return 0
	}
	return uint64(b) - uint64(a)
}
