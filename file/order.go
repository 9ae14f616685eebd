package file

import (
	"burin/api"
	"burin/segment"
)

const noPage = 0

// order is what the segments that have come say of the one that may come next.
type order struct {
	pages int // that there are to be
	next  int // the number of the segment that comes next
	page  int // the one that came last
	open  int
	held  shelf[struct{}]
}

func newOrder(pages int) *order {
	return &order{pages: pages, held: shelf[struct{}]{}}
}

// take tells the first fault of a segment that may be, where it stands; if there is none, it has come.
func (o *order) take(s api.Segment) api.Errno {
	switch {
	case s.Number != o.next:
		return api.ErrHead
	case !o.mayCome(s):
		return api.ErrPageOrder
	case !o.held.hasAll(s.Refs):
		return api.ErrNoSegment
	}
	switch s.Kind {
	case api.SegPage:
		o.page, o.open = s.Page, s.Page
	case api.SegEndPage:
		o.open = noPage
	}
	o.next++
	o.held.pass(s, struct{}{})
	return api.OK
}

// mayCome tells whether a segment's kind and page may come next.
func (o *order) mayCome(s api.Segment) bool {
	switch s.Kind {
	case api.SegPage:
		return o.open == noPage && s.Page == o.page+1 && s.Page <= o.pages
	case api.SegDict:
		return s.Page == noPage || s.Page == o.open
	case api.SegEndFile:
		return o.open == noPage && o.page == o.pages
	}
	return s.Page == o.open
}

// mayBe tells whether segments may be a file's. There are no more than MaxPages pages: they are counted on from 1, and each one's number may be.
func mayBe(l []api.Segment) bool {
	if len(l) == 0 {
		return false
	}
	o := newOrder(countPages(l))
	for i, s := range l {
		isLast := i == len(l)-1
		if !segment.Check(s) || isLast != (s.Kind == api.SegEndFile) || o.take(s) != api.OK {
			return false
		}
	}
	return true
}

func countPages(l []api.Segment) int {
	n := 0
	for _, s := range l {
		if s.Kind == api.SegPage {
			n++
		}
	}
	return n
}
