package file

import (
	"maps"
	"slices"

	"burin/api"
)

// shelf is the dictionaries that are held, by their numbers, and what is kept of each.
type shelf[T any] map[int]T

func (h shelf[T]) hasAll(refs []int) bool {
	for _, ref := range refs {
		if _, ok := h[ref]; !ok {
			return false
		}
	}
	return true
}

// pass is what becomes of the shelf behind a segment: own stands for the segment, if that is to be held itself.
func (h shelf[T]) pass(s api.Segment, own T) {
	for i, ref := range s.Refs {
		if !s.Keep[i] {
			delete(h, ref)
		}
	}
	if s.Stay {
		h[s.Number] = own
	}
}

// numbers tells those that are held, rising.
func (h shelf[T]) numbers() []int {
	l := slices.AppendSeq(make([]int, 0, len(h)), maps.Keys(h))
	slices.Sort(l)
	return l
}
