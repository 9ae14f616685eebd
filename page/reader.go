package page

import (
	"burin/api"
	"burin/bits"
	"burin/generic"
)

// read tells what a reader makes of bytes. Only the bytes' faults are recovered: they are all of them numbers of errors.
func read[T any](f []byte, of func(reader) T) (t T, err api.Errno) {
	defer func() {
		if fault := recover(); fault != nil {
			err = fault.(api.Errno)
		}
	}()
	return of(reader{r: bits.NewReader(f), f: f}), api.OK
}

// reader goes through bytes from left to right. At the first fault it ends by panic, with the number of the error.
type reader struct {
	r *bits.Reader
	f []byte
}

func (r reader) sheet() api.Sheet {
	s := api.Sheet{}
	s.W, s.H = r.size()
	s.Default = r.byte()
	demand(isBit(s.Default), api.ErrPageForm)
	s.Stripe = r.count()
	demand(r.r.Left() == 0, api.ErrPageForm)
	return s
}

// region reads a region. Of a size that is within its cap package generic makes a bitmap of any bytes.
func (r reader) region() api.Region {
	g := api.Region{X: r.count(), Y: r.count()}
	w, h := r.size()
	form := r.byte()
	g.Template = form & lastTemplate
	g.Skip = form&skips != 0
	g.Op = form / operations
	demand(isOp(g.Op), api.ErrPageForm)
	g.B, _ = generic.Decode(r.rest(), w, h, g.Template, g.Skip)
	return g
}

// size asks by a quotient: a product might wrap.
func (r reader) size() (w, h int) {
	width := r.number()
	demand(width > 0, api.ErrPageForm)
	height := r.number()
	demand(height > 0, api.ErrPageForm)
	demand(width <= api.MaxArea/height, api.ErrTooBig)
	return int(width), int(height)
}

func (r reader) count() int {
	n := r.number()
	demand(n <= api.MaxArea, api.ErrPageForm)
	return int(n)
}

func (r reader) number() uint64 {
	n, err := r.r.Var()
	demand(err == api.OK, api.ErrPageForm)
	return n
}

func (r reader) byte() int {
	n, err := r.r.Take(8)
	demand(err == api.OK, api.ErrPageForm)
	return int(n)
}

// rest is what stands behind all that was read; that was whole bytes.
func (r reader) rest() []byte {
	return r.f[len(r.f)-r.r.Left()/8:]
}

func demand(holds bool, fault api.Errno) {
	if !holds {
		panic(fault)
	}
}
