package plan

import (
	"slices"

	"burin/api"
	"burin/page"
)

// adder takes the next segment, and tells its number.
type adder func(s api.Segment) int

// gathered numbers the segments that are added, and lets the file's end follow.
func gathered(addAll func(add adder)) []api.Segment {
	var l []api.Segment
	add := func(s api.Segment) int {
		s.Number = len(l)
		l = append(l, s)
		return s.Number
	}
	addAll(add)
	add(api.Segment{Kind: api.SegEndFile})
	return l
}

// keepForLater has each segment keep those of its references that a later one has, too.
func keepForLater(l []api.Segment) {
	later := map[int]struct{}{}
	for _, s := range slices.Backward(l) {
		for i, ref := range s.Refs {
			_, s.Keep[i] = later[ref]
			later[ref] = struct{}{}
		}
	}
}

func beginPage(number int, b api.Bitmap, stripe int) api.Segment {
	data, _ := page.EncodeSheet(api.Sheet{W: b.W, H: b.H, Stripe: stripe})
	return api.Segment{Kind: api.SegPage, Page: number, Data: data}
}

func endPage(number int) api.Segment {
	return api.Segment{Kind: api.SegEndPage, Page: number}
}

// cut cuts a list into parts of at most so many items, and of at most MaxArea pixels: each one goes as far as it may.
func cut[T any](l []T, most int, area func(T) int) [][]T {
	var parts [][]T
	from, sum := 0, 0
	for i, item := range l {
		if i-from == most || sum+area(item) > api.MaxArea {
			parts = append(parts, l[from:i])
			from, sum = i, 0
		}
		sum += area(item)
	}
	if from < len(l) {
		parts = append(parts, l[from:])
	}
	return parts
}
