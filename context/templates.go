package context

// above is how many rows above a pixel's own a template begins.
const above = 2

// span is places of a row side by side, told as how far to the right of a pixel they are; none, if last is ahead of first.
type span struct {
	first, last int
}

func (s span) count() int {
	return s.last - s.first + 1
}

// spansOf tells a template's places, the highest row first, the pixel's own last.
func spansOf(template int) ([above + 1]span, bool) {
	switch template {
	case 0:
		return [...]span{{-2, 2}, {-3, 3}, {-4, -1}}, true
	case 1:
		return [...]span{{-1, 2}, {-2, 3}, {-3, -1}}, true
	case 2:
		return [...]span{{-1, 1}, {-2, 2}, {-2, -1}}, true
	case 3:
		return [...]span{{0, -1}, {-3, 2}, {-4, -1}}, true
	}
	return [above + 1]span{}, false
}
