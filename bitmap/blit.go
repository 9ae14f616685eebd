package bitmap

import "burin/api"

// operation is what becomes of words that stand and words that are laid.
type operation struct {
	number int
	of     func(d, s uint64) uint64
}

func operations() []operation {
	return []operation{
		{api.OpOr, func(d, s uint64) uint64 { return d | s }},
		{api.OpAnd, func(d, s uint64) uint64 { return d & s }},
		{api.OpXor, func(d, s uint64) uint64 { return d ^ s }},
		{api.OpXnor, func(d, s uint64) uint64 { return ^(d ^ s) }},
		{api.OpReplace, replace},
	}
}

func replace(d, s uint64) uint64 {
	return s
}

// span is n places of a row or a column: where they come from, where they come to.
type span struct {
	from, to, n int
}

// clip is the part of n places that is inside on both sides.
func clip(from, fromEnd, to, toEnd, n int) span {
	first := max(gap(from, 0), gap(to, 0))
	end := min(uint64(n), gap(from, fromEnd), gap(to, toEnd))
	if first >= end {
		return span{}
	}
	return span{from: from + int(first), to: to + int(first), n: int(end - first)}
}

// gap is how far b lies behind a, 0 if it doesn't: of any two ints it has room in a word.
func gap(a, b int) uint64 {
	if b <= a {
		return 0
	}
	return uint64(b) - uint64(a)
}

// move lays rows of src one by one. Each is copied ahead of it, as it may be the row that it is laid on; within one map those that go down are taken from the last one on, so that none is overwritten ahead of its turn.
func (m *Map) move(src *Map, across, down span, o operation) {
	backwards := src == m && down.to > down.from
	line := make([]uint64, src.stride+2)
	for turn := range down.n {
		j := turn
		if backwards {
			j = down.n - 1 - turn
		}
		copy(line[1:], src.row(down.from+j))
		lay(m.row(down.to+j), line, across, o.of)
	}
}

// lay lays pixels of line onto a row. A white word stands ahead of line's pixels and one behind them, so that a word of the row takes its pixels out of two that are there.
func lay(row, line []uint64, across span, of func(d, s uint64) uint64) {
	first, count := wordsOf(across)
	start := across.from - across.to%wordWidth + wordWidth
	at, shift := start/wordWidth, start%wordWidth
	for k := range count {
		s := line[at+k]<<shift | line[at+k+1]>>(wordWidth-shift)
		d := row[first+k]
		row[first+k] = d ^ (d^of(d, s))&maskOf(across, first+k)
	}
}

// paint makes pixels of a row black or white.
func paint(row []uint64, across span, bit int) {
	first, count := wordsOf(across)
	for k := range count {
		mask := maskOf(across, first+k)
		row[first+k] &^= mask
		if bit == 1 {
			row[first+k] |= mask
		}
	}
}

// wordsOf tells the first word, and how many, that a span comes to.
func wordsOf(across span) (first, count int) {
	if across.n == 0 {
		return 0, 0
	}
	first = across.to / wordWidth
	return first, (across.to+across.n-1)/wordWidth - first + 1
}

// maskOf is the pixels of word k that a span comes to; there is at least one.
func maskOf(across span, k int) uint64 {
	ahead := max(across.to-k*wordWidth, 0)
	behind := max((k+1)*wordWidth-across.to-across.n, 0)
	return allBlack >> ahead & (allBlack << behind)
}
