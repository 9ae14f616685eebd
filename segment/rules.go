package segment

import "burin/api"

const lastNumber = api.MaxSegments - 1

// rule says what a segment of a kind may have.
type rule struct {
	leastPage int
	mostPage  int
	refs      bool
	stay      bool
	mostData  int // bytes
}

// rules has a row for each kind; no segment is of the first one.
var rules = [...]rule{
	api.SegNone:    {0, 0, false, false, 0},
	api.SegPage:    {1, api.MaxPages, false, false, api.MaxBytes},
	api.SegDict:    {0, api.MaxPages, true, true, api.MaxBytes},
	api.SegText:    {1, api.MaxPages, true, false, api.MaxBytes},
	api.SegGeneric: {1, api.MaxPages, false, false, api.MaxBytes},
	api.SegStripe:  {1, api.MaxPages, false, false, api.MaxBytes},
	api.SegEndPage: {1, api.MaxPages, false, false, 0},
	api.SegEndFile: {0, 0, false, false, 0},
}

// mostRefs tells how many references a segment may have: there are no more segments ahead of it.
func (r rule) mostRefs(number int) int {
	if r.refs {
		return number
	}
	return 0
}

// areRising tells whether references rise strictly, from 0 on and up to last.
func areRising(refs []int, last int) bool {
	least := 0
	for _, ref := range refs {
		if !isBetween(ref, least, last) {
			return false
		}
		least = ref + 1
	}
	return true
}

func isBetween[T int | uint64](n, least, most T) bool {
	return least <= n && n <= most
}
