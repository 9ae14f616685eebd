package page

import (
	"burin/api"
	"burin/bits"
	"burin/generic"
)

// What stands in the byte of a region's head: the template in the bits below skips.
const (
	lastTemplate = 3
	skips        = 4
	operations   = 8 // times the operation
)

const headMost = 13 // bytes: four numbers that take at most three bytes each as Vars, and a byte

// sheetBytes tells the bytes of a sheet that may be.
func sheetBytes(s api.Sheet) []byte {
	w, _ := bits.NewWriter(headMost)
	putNumbers(w, s.W, s.H)
	w.Put(uint64(s.Default), 8)
	putNumbers(w, s.Stripe)
	return w.Bytes()
}

// regionBytes tells the bytes of a region that may be: package generic refuses none of those.
func regionBytes(r api.Region) []byte {
	w, _ := bits.NewWriter(headMost)
	putNumbers(w, r.X, r.Y, r.B.W, r.B.H)
	form := r.Template + operations*r.Op
	if r.Skip {
		form += skips
	}
	w.Put(uint64(form), 8)
	f, _ := generic.Encode(r.B, r.Template, r.Skip)
	return append(w.Bytes(), f...)
}

func putNumbers(w *bits.Writer, l ...int) {
	for _, n := range l {
		w.Var(uint64(n))
	}
}
