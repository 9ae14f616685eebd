package segment

import (
	"burin/api"
	"burin/bits"
)

const varMost = 10 // bytes of a Var that are ever looked at

// read tells what a reader makes of bytes. Only the bytes' faults are recovered: they are all of them numbers of errors.
func read(f []byte, at int) (s api.Segment, length, end int, err api.Errno) {
	defer func() {
		if fault := recover(); fault != nil {
			err = fault.(api.Errno)
		}
	}()
	r := newReader(f, at)
	found, size := r.segment()
	return found, size, r.at, api.OK
}

// reader goes through a header from left to right. At the first fault it ends by panic, with the number of the error.
type reader struct {
	f  []byte
	at int // the byte that comes next
}

func newReader(f []byte, at int) *reader {
	demand(isBetween(at, 0, len(f)), api.ErrEnd)
	return &reader{f: f, at: at}
}

// segment tells how many bytes the segment's data have, too.
func (r *reader) segment() (s api.Segment, size int) {
	s.Number = r.number(0, lastNumber)
	s.Kind = r.kind()
	allowed := rules[s.Kind]
	s.Page = r.number(allowed.leastPage, allowed.mostPage)
	count := r.number(0, allowed.mostRefs(s.Number))
	s.Refs = r.rising(count, s.Number-1)
	s.Keep, s.Stay = r.flags(count)
	demand(allowed.stay || !s.Stay, api.ErrHead)
	return s, r.number(0, allowed.mostData)
}

func (r *reader) kind() int {
	n, err := r.part(1).Take(8)
	demandBits(err)
	demand(isBetween(n, api.SegPage, api.SegEndFile), api.ErrHead)
	r.at++
	return int(n)
}

// rising reads references, each of them above the one ahead, and none above last.
func (r *reader) rising(count, last int) []int {
	var l []int
	least := 0
	for range count {
		ref := r.number(least, last)
		l = append(l, ref)
		least = ref + 1
	}
	return l
}

// flags reads one for each reference, the one behind them, and the bits up to a whole byte.
func (r *reader) flags(count int) (keep []bool, stay bool) {
	size := count/8 + 1
	part := r.part(size)
	for range count {
		keep = append(keep, takeFlag(part))
	}
	stay = takeFlag(part)
	demandBits(part.Align())
	r.at += size
	return keep, stay
}

func takeFlag(part *bits.Reader) bool {
	bit, err := part.Take(1)
	demandBits(err)
	return bit == 1
}

// number reads a Var. Neither of the bounds is below 0: there are references only of a number above 0.
func (r *reader) number(least, most int) int {
	part := r.part(varMost)
	ahead := part.Left()
	n, err := part.Var()
	demandBits(err)
	demand(isBetween(n, uint64(least), uint64(most)), api.ErrHead)
	r.at += (ahead - part.Left()) / 8
	return int(n)
}

// part reads the bytes that come next, at most so many: a reader of all of them would copy the whole file for each header.
func (r *reader) part(most int) *bits.Reader {
	return bits.NewReader(r.f[r.at:min(r.at+most, len(r.f))])
}

// demandBits tells what bits that are refused are to a header.
func demandBits(err api.Errno) {
	demand(err != api.ErrBitsEnd, api.ErrEnd)
	demand(err == api.OK, api.ErrHead)
}

func demand(holds bool, fault api.Errno) {
	if !holds {
		panic(fault)
	}
}
