package file

import (
	"bytes"
	"iter"
	"slices"

	"burin/api"
	"burin/bits"
	"burin/segment"
)

const varMost = 10 // bytes of a Var that are ever looked at

// reader goes through a file. At the first fault it ends by panic, with the number of the error.
type reader struct {
	f      []byte
	at     int // the byte that comes next
	random bool
	order  *order
}

// head is a segment whose data have not come; so many bytes they have.
type head struct {
	s      api.Segment
	length int
}

// newReader reads what stands ahead of the segments.
func newReader(f []byte) *reader {
	demand(bytes.HasPrefix(f, []byte(magic)), api.ErrMagic)
	r := &reader{f: f, at: len(magic)}
	r.random = r.organisation() == randomAccess
	r.order = newOrder(r.pages())
	return r
}

func (r *reader) organisation() byte {
	demand(r.at < len(r.f), api.ErrEnd)
	how := r.f[r.at]
	demand(how == sequential || how == randomAccess, api.ErrHead)
	r.at++
	return how
}

func (r *reader) pages() int {
	part := bits.NewReader(r.f[r.at:min(r.at+varMost, len(r.f))])
	ahead := part.Left()
	n, err := part.Var()
	demand(err != api.ErrBitsEnd, api.ErrEnd)
	demand(err == api.OK && n <= api.MaxPages, api.ErrHead)
	r.at += (ahead - part.Left()) / 8
	return int(n)
}

// segments gives each segment with its data, which are still the file's own bytes. Headers come one by one, as they are asked for, or all of them ahead of the data.
func (r *reader) segments(yield func(api.Segment) bool) {
	heads := iter.Seq[head](r.heads)
	if r.random {
		heads = slices.Values(slices.Collect(heads))
	}
	for h := range heads {
		h.s.Data = r.data(h.length)
		if !yield(h.s) {
			return
		}
	}
	demand(r.at == len(r.f), api.ErrMore)
}

// heads gives each header up to that of the file's end.
func (r *reader) heads(yield func(head) bool) {
	for {
		h := r.head()
		if !yield(h) || h.s.Kind == api.SegEndFile {
			return
		}
	}
}

func (r *reader) head() head {
	s, length, end, err := segment.Decode(r.f, r.at)
	demandOK(err)
	demandOK(r.order.take(s))
	r.at = end
	return head{s: s, length: length}
}

func (r *reader) data(length int) []byte {
	demand(length <= len(r.f)-r.at, api.ErrEnd)
	from := r.at
	r.at += length
	return r.f[from:r.at]
}

func demandOK(err api.Errno) {
	demand(err == api.OK, err)
}

func demand(holds bool, fault api.Errno) {
	if !holds {
		panic(fault)
	}
}
