package whole

import (
	"iter"

	"burin/api"
	"burin/arith"
)

// row says how amounts from least on, up to the next row's, are coded: a head that tells the row, then what the amount is above least.
type row struct {
	least     uint64
	head      uint64
	headWidth int
	width     int
}

var rows = [...]row{
	{0, 0b0, 1, 2},
	{4, 0b10, 2, 4},
	{20, 0b110, 3, 6},
	{84, 0b1110, 4, 8},
	{340, 0b11110, 5, 12},
	{4436, 0b11111, 5, 32},
}

// rowOf tells the last row that begins at the amount or below.
func rowOf(amount uint64) row {
	found := row{}
	for _, r := range rows {
		if r.least <= amount {
			found = r
		}
	}
	return found
}

// bitsOf gives the sign, the head, and what the amount is above its row's least.
func bitsOf(n api.Whole) iter.Seq[int] {
	sign, amount := parts(n)
	r := rowOf(amount)
	word := (sign<<r.headWidth|r.head)<<r.width | (amount - r.least)
	return highestFirst(word, 1+r.headWidth+r.width)
}

// parts makes of none the 0 below 0 that no number is.
func parts(n api.Whole) (sign, amount uint64) {
	switch {
	case n.None:
		return 1, 0
	case n.V < 0:
		return 1, uint64(-n.V)
	}
	return 0, uint64(n.V)
}

// joined is parts the other way.
func joined(sign, amount uint64) (api.Whole, api.Errno) {
	switch {
	case amount > api.MaxWhole:
		return api.Whole{}, api.ErrWholeRange
	case sign == 0:
		return api.Whole{V: int64(amount)}, api.OK
	}
	return api.Whole{V: -int64(amount), None: amount == 0}, api.OK
}

// walk is the way of a row of bits through the contexts from base on. V stays below their number: a greater one keeps its lowest bits under a highest 1. (An ID comes to that only behind its last bit.)
type walk struct {
	base, size int
	v          int
}

func startAt(base, size int) *walk {
	return &walk{base: base, size: size, v: 1}
}

func (w *walk) pass(bit int) {
	w.v = 2*w.v + bit
	if w.v >= w.size {
		w.v = w.v%(w.size/2) + w.size/2
	}
}

func (w *walk) put(c *arith.Coder, bits iter.Seq[int]) api.Errno {
	for bit := range bits {
		if err := c.Put(w.base+w.v, bit); err != api.OK {
			return err
		}
		w.pass(bit)
	}
	return api.OK
}

// take decodes so many bits, the highest first.
func (w *walk) take(d *arith.Decoder, width int) (uint64, api.Errno) {
	word := uint64(0)
	for range width {
		bit, err := d.Get(w.base + w.v)
		if err != api.OK {
			return 0, err
		}
		w.pass(bit)
		word = word<<1 | uint64(bit)
	}
	return word, api.OK
}

func (w *walk) number(d *arith.Decoder) (api.Whole, api.Errno) {
	sign, err := w.take(d, 1)
	if err != api.OK {
		return api.Whole{}, err
	}
	r, err := w.head(d)
	if err != api.OK {
		return api.Whole{}, err
	}
	above, err := w.take(d, r.width)
	if err != api.OK {
		return api.Whole{}, err
	}
	return joined(sign, r.least+above)
}

// head takes as many bits as each row's head has, until they are that row's; no row has the rest but the last one.
func (w *walk) head(d *arith.Decoder) (row, api.Errno) {
	head, width := uint64(0), 0
	found := row{}
	for _, found = range rows {
		more, err := w.take(d, found.headWidth-width)
		if err != api.OK {
			return row{}, err
		}
		width, head = found.headWidth, head<<(found.headWidth-width)|more
		if head == found.head {
			break
		}
	}
	return found, api.OK
}
